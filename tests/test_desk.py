import copy
import unittest

import samples
from turnletters.desk import Desk
from turnletters.errors import NoLine, NoNumber, TooMany
from turnletters.often import first_even
from turnletters.runs import first_good
from turnletters.texts import read, show
from turnletters.webs import shows
from turnletters.words import first_wrong, longer, times

ASKED = ("told", "letters", "shows", "wrong", "times", "run", "barred")
WHEEL = samples.WHEEL

# Lines that are none, whatever web and word a desk keeps.
NO_LINES = (
    "", " ", "  ", "x", "a", "abcd", "1", "4 0-1", "web", "word", "web ", "word ", "web  ", "word  ", "Web 1", "WEB 1",
    "web1", "web: 1", "web\t1", "web\n1", "web 1\n", "wordab", "Word a", "WORD a", "word\ta", "word a\n",
    # with a blank ahead, behind, or twice
    " web 1", "web  1", "web 1 ", " web 4 0-1", "web 4  0-1", "web 4 0-1 ", "web 4 0-1  1-2", " word a", "word  a",
    "word a ", "word a a",
    # with what is no web's text behind
    "web 0", "web 7", "web -1", "web a", "web 4 1-0", "web 4 0-4", "web 4 1-2 0-1", "web 4 0-1 0-1", "web 4 0-1,1-2",
    "web 04", "web +4", "web 4 00-1", "web 4 0-1 x", "web 1 0-1", "web 4-0", "web (4, ())", "web 10", "web None",
    # with what is no word of any web behind
    "word x", "word A", "word abx", "word bcd", "word b", "word abcdefg", "word a-b", "word 0", "word None",
    "word word",
) + tuple(
    form.format(line)
    for line in ("behind", "longer", "back", "told", "letters", "shows", "wrong", "times", "run", "pair", "barred")
    for form in (" {}", "{} ", "  {}", "{}  ", "{}\n", "\n{}", "\t{}", "{}s", "{}.", "{} 1", "{} a", "a{}", "{0} {0}",
                 "{0}{0}")
) + tuple(
    form for line in ("behind", "longer", "back", "told", "letters", "shows", "wrong", "times", "run", "pair", "barred")
    for form in (line.upper(), line.title(), line[:-1], line[1:], line[0] + " " + line[1:], line + "x")
)

# What is no text.
NO_TEXTS = (None, True, False, 0, 1, -1, 10 ** 29, [], ["told"], (), ("told",), {}, {"told": 1}, (1, ()),
            [["web", "1"]], ("web", "1"), ["web 1"], {1: "told"}, ((4, ((0, 1),)),))


def told_by(desk):
    """All that a desk tells of what it keeps."""
    return [desk.say(line) for line in ASKED]


def desk_of(web, word):
    desk = Desk()
    desk.say("web " + show(web))
    desk.say("word " + word)
    return desk


class Script(unittest.TestCase):
    """A way to write down lines and their answers."""

    def check(self, desk, *rows):
        for line, wanted in rows:
            if isinstance(wanted, str):
                told = desk.say(line)
                self.assertEqual(told, wanted, line)
                self.assertIs(type(told), str)
            else:
                with self.assertRaises(wanted, msg=line) as caught:
                    desk.say(line)
                self.assertIs(type(caught.exception), wanted)


class Changed(Script):
    """[101]: the lines that change what a desk keeps."""

    def test_at_first(self):
        self.check(Desk(), ("told", "1"), ("letters", "a"), ("shows", "yes"), ("wrong", "none"), ("times", "1"),
                   ("run", "free"), ("pair", "aa"), ("barred", "no"), ("back", NoNumber))

    def test_web(self):
        self.check(Desk(), ("web 4 0-1 1-2", "2"), ("told", "4 0-1 1-2"), ("letters", "abcd"), ("web 2", "0"),
                   ("told", "2"), ("letters", "ab"), ("web 1", "0"), ("letters", "a"),
                   ("web 6 " + " ".join(f"{a}-{b}" for a, b in samples.all_pairs(6)), "15"), ("letters", "abcdef"),
                   ("shows", "yes"))

    def test_each_web(self):
        desk = Desk()
        webs = [web for many in range(1, 5) for web in samples.all_webs(many)] + samples.some_webs(5)
        for web in webs + samples.some_webs(6) + [WHEEL]:
            self.check(desk, ("web " + show(web), str(len(web[1]))), ("told", show(web)),
                       ("letters", samples.LETTERS[:web[0]]))
            self.assertEqual(read(desk.say("told")), web)

    def test_a_web_makes_its_letters_the_word(self):
        self.check(Desk(), ("web 3", "0"), ("word cab", "cab"), ("web 3", "0"), ("letters", "abc"), ("word bca", "bca"),
                   ("web 3 0-1", "1"), ("letters", "abc"))

    def test_word(self):
        self.check(Desk(), ("word aaa", "aaa"), ("letters", "aaa"), ("web 3 0-1", "1"), ("word cab", "cab"),
                   ("letters", "cab"), ("word ab", NoLine), ("word abcd", NoLine), ("letters", "cab"),
                   ("word " + "abc" * 26 + "ca", "abc" * 26 + "ca"), ("letters", "abc" * 26 + "ca"))

    def test_behind(self):
        self.check(Desk(), ("behind", "a"), ("web 4", "0"), ("behind", "dcba"), ("letters", "dcba"), ("behind", "abcd"),
                   ("word aabacd", "aabacd"), ("behind", "dcabaa"), ("letters", "dcabaa"), ("told", "4"))

    def test_longer(self):
        self.check(Desk(), ("longer", "aa"), ("longer", "aaa"), ("web 3 0-1", "1"), ("word bcab", "bcab"),
                   ("longer", "bcabcab"), ("letters", "bcabcab"), ("longer", "bcabcabcab"), ("told", "3 0-1"))

    def test_longer_up_to_24_letters(self):
        for many in range(1, 7):
            letters = samples.LETTERS[:many]
            for length in range(many, 31):
                word = (letters * 30)[:length]
                longer_word = letters + word
                with self.subTest(word=word):
                    desk = desk_of((many, ()), word)
                    wanted = TooMany if len(longer_word) > 24 else longer_word
                    self.check(desk, ("longer", wanted), ("letters", word if wanted is TooMany else wanted))

    def test_longer_many_times(self):
        desk = Desk()
        for length in range(2, 25):
            self.check(desk, ("longer", "a" * length))
        for _ in range(3):
            self.check(desk, ("longer", TooMany), ("letters", "a" * 24))
        self.check(desk, ("back", "a" * 23), ("longer", "a" * 24), ("longer", TooMany), ("back", "a" * 23))

    def test_a_word_may_have_more_letters(self):
        self.check(Desk(), ("word " + "a" * 80, "a" * 80), ("longer", TooMany), ("behind", "a" * 80), ("times", "80"),
                   ("back", "a" * 80), ("back", "a"), ("back", NoNumber))

    def test_each_may_be_handed_in_again(self):
        web, word = (3, ()), "cba" * 26 + "cc"
        word = longer(web, word)
        desk = Desk()
        self.check(desk, ("web 3", "0"), ("word " + word, word), ("letters", word), ("behind", word[::-1]))
        self.check(desk, ("word " + desk.say("letters"), word[::-1]), ("times", "27 27 29"))


class Back(Script):
    """[101]: the last change that stands is undone."""

    def test_each_of_the_four(self):
        self.check(Desk(), ("web 3 0-2", "1"), ("back", "a"), ("told", "1"), ("letters", "a"), ("back", NoNumber))
        self.check(Desk(), ("word aa", "aa"), ("back", "a"), ("letters", "a"), ("back", NoNumber))
        self.check(Desk(), ("behind", "a"), ("back", "a"), ("letters", "a"), ("back", NoNumber))
        self.check(Desk(), ("longer", "aa"), ("back", "a"), ("letters", "a"), ("back", NoNumber))

    def test_many_times(self):
        self.check(
            Desk(), ("web 3 0-1", "1"), ("word bcab", "bcab"), ("behind", "bacb"), ("longer", "bacbacb"),
            ("web 2 0-1", "1"), ("behind", "ba"), ("back", "ab"), ("told", "2 0-1"), ("back", "bacbacb"),
            ("told", "3 0-1"), ("back", "bacb"), ("back", "bcab"), ("back", "abc"), ("told", "3 0-1"), ("back", "a"),
            ("told", "1"), ("back", NoNumber), ("told", "1"), ("letters", "a"), ("back", NoNumber))

    def test_changed_again_behind_it(self):
        self.check(Desk(), ("web 3", "0"), ("behind", "cba"), ("back", "abc"), ("word bca", "bca"), ("back", "abc"),
                   ("longer", "abcabc"), ("back", "abc"), ("back", "a"), ("back", NoNumber), ("web 2", "0"),
                   ("back", "a"))

    def test_changes_to_the_same_stand_too(self):
        self.check(Desk(), ("word a", "a"), ("web 1", "0"), ("behind", "a"), ("back", "a"), ("back", "a"),
                   ("back", "a"), ("back", NoNumber))

    def test_the_word_comes_back_with_its_web(self):
        self.check(Desk(), ("web 3 0-1", "1"), ("word cab", "cab"), ("web 3 0-2", "1"), ("back", "cab"),
                   ("told", "3 0-1"), ("letters", "cab"))

    def test_of_a_hundred_changes(self):
        desk = Desk()
        for number in range(100):
            self.check(desk, (f"web {number % 6 + 1}", "0"))
        for number in range(98, -1, -1):
            self.check(desk, ("back", samples.LETTERS[:number % 6 + 1]))
        self.check(desk, ("back", "a"), ("back", NoNumber))

    def test_what_is_asked_or_refused_is_not_undone(self):
        self.check(Desk(), ("web 5", "0"), ("word edcba", "edcba"), ("told", "5"), ("pair", TooMany),
                   ("word a", NoLine), ("web 9", NoLine), ("run", "free"), ("x", NoLine), ("back", "abcde"),
                   ("shows", "no"), ("back", "a"), ("letters", "a"), ("back", NoNumber))
        self.check(Desk(), ("word " + "a" * 24, "a" * 24), ("longer", TooMany), ("back", "a"), ("back", NoNumber))


class Asked(Script):
    """[101]: the lines that ask."""

    def test_by_hand(self):
        self.check(
            Desk(), ("web 4 0-1 1-2 2-3", "3"), ("told", "4 0-1 1-2 2-3"), ("letters", "abcd"), ("shows", "no"),
            ("wrong", "0 2"), ("times", "1 1 1 1"), ("run", "---"), ("pair", "abacbdcd"), ("barred", "no"),
            ("word abacbdcd", "abacbdcd"), ("shows", "yes"), ("wrong", "none"), ("times", "2 2 2 2"),
            ("word abacbdcddd", "abacbdcddd"), ("times", "2 2 2 4"), ("wrong", "2 3"), ("word abacbdcdb", "abacbdcdb"),
            ("wrong", "0 1"), ("shows", "no"), ("times", "2 3 2 2"))

    def test_run(self):
        self.check(Desk(), ("run", "free"), ("web 6", "0"), ("run", "free"), ("web 2 0-1", "1"), ("run", "-"),
                   ("web 4 0-1 0-3 1-2 2-3", "4"), ("run", "---+"), ("web 5 0-1 0-4 1-2 2-3 3-4", "5"),
                   ("run", "----+"),
                   ("web 6 0-1 0-4 0-5 1-2 1-5 2-3 2-5 3-4 3-5 4-5", "10"), ("run", "none"), ("barred", "yes"))

    def test_pair(self):
        self.check(Desk(), ("pair", "aa"), ("web 2", "0"), ("pair", "aabb"), ("web 2 0-1", "1"), ("pair", "abab"),
                   ("web 3", "0"), ("pair", "aabbcc"), ("web 5", "0"), ("pair", TooMany), ("web 6 0-1", "1"),
                   ("pair", TooMany), ("letters", "abcdef"), ("back", "abcde"))

    def test_of_each_web(self):
        for many in range(1, 7):
            webs = list(samples.all_webs(many)) if many < 5 else samples.some_webs(many)
            for web in webs + [WHEEL] * (many == 6):
                for word in (samples.LETTERS[:many], *list(samples.rough_words(many))[:3]):
                    wrong, run = first_wrong(web, word), first_good(web)
                    signs = "none" if run is None else "".join({1: "+", -1: "-"}[mark] for mark in run) or "free"
                    pair = first_even(web, 2) if many < 5 else TooMany
                    self.check(
                        desk_of(web, word), ("told", show(web)), ("letters", word),
                        ("shows", "yes" if shows(web, word) else "no"),
                        ("wrong", "none" if wrong is None else f"{wrong[0]} {wrong[1]}"),
                        ("times", " ".join(str(often) for often in times(web, word))), ("run", signs), ("pair", pair),
                        ("barred", "yes" if run is None else "no"))

    def test_what_is_asked_changes_nothing(self):
        for web, word in (((1, ()), "a"), ((3, ((0, 2),)), "cabc"), (WHEEL, "abcdef"), ((4, ()), "aabbccdd")):
            desk = desk_of(web, word)
            told = told_by(desk)
            with self.subTest(web=web):
                for _ in range(3):
                    self.assertEqual(told_by(desk), told)
                self.check(desk, ("back", samples.LETTERS[:web[0]]), ("back", "a"), ("back", NoNumber))


class Refused(Script):
    """[102], [5]: what is none of the lines is refused with NoLine, and what is refused changes nothing."""

    def test_no_line(self):
        for web, word in (((1, ()), "a"), ((4, ((0, 1), (1, 2))), "abcdb"), (samples.path(6), "fabcde")):
            desk = desk_of(web, word)
            told = told_by(desk)
            for line in NO_LINES + NO_TEXTS:
                if line not in ("word a",):
                    self.check(desk, (line, NoLine))
                    self.assertEqual(told_by(desk), told, line)
            self.check(desk, ("back", samples.LETTERS[:web[0]]), ("back", "a"), ("back", NoNumber))

    def test_no_word_of_the_web(self):
        for many in range(1, 7):
            desk = Desk()
            desk.say(f"web {many}")
            for other in range(1, 7):
                for word in (samples.LETTERS[:other], samples.LETTERS[:other][::-1] * 2):
                    self.check(desk, ("word " + word, word if other == many else NoLine))
            for word in samples.NO_WORDS_OF_THREE:
                if many == 3 and isinstance(word, str):
                    self.check(desk, ("word " + word, NoLine))

    def test_no_text_of_a_web(self):
        desk = Desk()
        for line in ("web 4 0-1 1-2 2-3 3-4", "web 4 0-2 0-1", "web 4 0-1 1-1", "web 4 0-1 2-1", "web 2 0-1 0-1"):
            self.check(desk, (line, NoLine), ("told", "1"), ("back", NoNumber))

    def test_no_line_goes_ahead_of_all_else(self):
        desk = Desk()
        self.check(desk, ("back ", NoLine), (" back", NoLine), ("back", NoNumber))
        self.check(desk, ("word " + "a" * 24, "a" * 24), ("longer ", NoLine), ("longer", TooMany))
        self.check(desk, ("web 5", "0"), ("pair ", NoLine), ("pair", TooMany))

    def test_things_of_other_kinds_are_not_changed(self):
        for thing in NO_TEXTS:
            kept = copy.deepcopy(thing)
            self.check(Desk(), (thing, NoLine), (thing, NoLine))
            self.assertEqual(thing, kept)


class TwoDesks(Script):
    """[102]: two desks have nothing in common."""

    def test_two_desks(self):
        one, other = Desk(), Desk()
        self.check(one, ("web 3 0-1", "1"), ("word cab", "cab"))
        self.check(other, ("told", "1"), ("letters", "a"), ("back", NoNumber), ("longer", "aa"))
        self.check(one, ("told", "3 0-1"), ("letters", "cab"), ("back", "abc"))
        self.check(other, ("letters", "aa"), ("back", "a"), ("back", NoNumber))
        self.check(one, ("back", "a"), ("back", NoNumber))
        self.check(Desk(), ("told", "1"), ("letters", "a"), ("back", NoNumber))

    def test_the_same_lines_have_the_same_answers(self):
        lines = ("web 4 0-1 1-2 2-3", "pair", "word abacbdcd", "longer", "run", "behind", "wrong", "times",
                 "back", "told")
        one, other = Desk(), Desk()
        self.assertEqual([one.say(line) for line in lines], [other.say(line) for line in lines])


if __name__ == "__main__":
    unittest.main()
