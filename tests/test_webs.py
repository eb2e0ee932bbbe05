import copy
import unittest

import samples
from turnletters.errors import NoNumber, NoPlace, NoWeb, NoWord
from turnletters.webs import is_web, is_word, shows, take_turns, turned_web

PATH = (4, ((0, 1), (1, 2), (2, 3)))
ALL_SIX = (6, samples.all_pairs(6))

# Of each number of places a word and the web that it shows, worked out by hand.
SHOWN = (
    (1, "a", ()),
    (1, "aaaa", ()),
    (2, "ab", ((0, 1),)),
    (2, "ba", ((0, 1),)),
    (2, "aba", ((0, 1),)),
    (2, "babab", ((0, 1),)),
    (2, "aab", ()),
    (2, "abba", ()),
    (2, "abb", ()),
    (3, "abc", ((0, 1), (0, 2), (1, 2))),
    (3, "abac", ((0, 1), (1, 2))),
    (3, "abcb", ((0, 2), (1, 2))),
    (3, "aabbcc", ()),
    (4, "baccbdad", ((0, 1), (0, 3))),
    (4, "abacbdcd", ((0, 1), (1, 2), (2, 3))),
    (5, "abcdeabcde", samples.all_pairs(5)),
    (5, "aabbccdde", ()),
    (6, "fedcba", samples.all_pairs(6)),
    (6, "abcdeffedcba", ()),
)


class IsWeb(unittest.TestCase):
    """[2], [11]: what is a web, and what is none."""

    def test_no_tie_and_all_ties(self):
        for many in range(1, 7):
            with self.subTest(many=many):
                self.assertIs(is_web((many, ())), True)
                self.assertIs(is_web((many, samples.all_pairs(many))), True)

    def test_all_webs_of_few_places(self):
        for many in range(1, 5):
            for web in samples.all_webs(many):
                with self.subTest(web=web):
                    self.assertIs(is_web(web), True)

    def test_some_webs_of_more_places(self):
        for many in (5, 6):
            for web in samples.some_webs(many):
                with self.subTest(web=web):
                    self.assertIs(is_web(web), True)

    def test_what_is_none(self):
        for thing in samples.NO_WEBS:
            with self.subTest(thing=thing):
                self.assertIs(is_web(thing), False)

    def test_each_fault_alone_is_enough(self):
        # Ties of all pairs, of which one is off.
        pairs = samples.all_pairs(5)
        for at, (one, other) in enumerate(pairs):
            for tie in ((other, one), (one, one), (one, 5), [one, other], (one, other, 4), (one,), (-1, other), None):
                with self.subTest(tie=tie, at=at):
                    self.assertIs(is_web((5, pairs[:at] + (tie,) + pairs[at + 1:])), False)
            with self.subTest(twice=at):
                self.assertIs(is_web((5, pairs[:at] + (pairs[at],) + pairs[at:])), False)

    def test_neighbours_out_of_order(self):
        pairs = samples.all_pairs(4)
        for at in range(len(pairs) - 1):
            with self.subTest(at=at):
                ties = pairs[:at] + (pairs[at + 1], pairs[at]) + pairs[at + 2:]
                self.assertIs(is_web((4, ties)), False)

    def test_ties_beyond_the_places(self):
        for many in range(1, 6):
            with self.subTest(many=many):
                self.assertIs(is_web((many, samples.all_pairs(many + 1))), False)


class IsWord(unittest.TestCase):
    """[2], [11]: what is a word of a web, and what is none."""

    def test_words(self):
        for many in range(1, 7):
            letters = samples.LETTERS[:many]
            words = [letters, letters[::-1], letters * 2, letters[0] * 5 + letters, letters + letters[-1] * 7]
            words.append((letters * 80)[:80])
            for word in words:
                with self.subTest(many=many, word=word):
                    self.assertIs(is_word(word, (many, ())), True)
                    self.assertIs(is_word(word, (many, samples.all_pairs(many))), True)

    def test_a_word_needs_not_show_the_web(self):
        self.assertIs(is_word("aabbccdd", PATH), True)

    def test_what_is_none(self):
        for thing in samples.NO_WORDS_OF_THREE:
            with self.subTest(thing=thing):
                self.assertIs(is_word(thing, (3, ((0, 1),))), False)

    def test_each_letter_is_missed(self):
        for many in range(1, 7):
            for at in range(many):
                letters = samples.LETTERS[:many]
                with self.subTest(many=many, at=at):
                    self.assertIs(is_word((letters[:at] + letters[at + 1:]) * 2, (many, ())), False)

    def test_a_letter_beyond(self):
        for many in range(1, 6):
            with self.subTest(many=many):
                self.assertIs(is_word(samples.LETTERS[:many + 1], (many, ())), False)
        self.assertIs(is_word("abcdefg", (6, ())), False)

    def test_any_other_sign_of_ascii(self):
        for code in range(128):
            sign = chr(code)
            if sign not in "abc":
                with self.subTest(sign=sign):
                    self.assertIs(is_word("ab" + sign + "c", (3, ())), False)
                    self.assertIs(is_word("abc" + sign, (3, ())), False)

    def test_no_web_goes_ahead(self):
        for web in samples.NO_WEBS:
            for thing in ("a", "abcd", "", None, 4, [], {}):
                with self.subTest(web=web, thing=thing):
                    with self.assertRaises(NoWeb):
                        is_word(thing, web)


class TakeTurns(unittest.TestCase):
    """[2], [11]: whether two places take turns."""

    def check(self, word, one, other, wanted):
        web = (len(set(word)), ())
        with self.subTest(word=word, one=one, other=other):
            self.assertIs(take_turns(web, word, one, other), wanted)
            self.assertIs(take_turns(web, word, other, one), wanted)

    def test_two_that_do(self):
        for word in ("ab", "ba", "abab", "aba", "bab", "ababa", "ab" * 40):
            self.check(word, 0, 1, True)

    def test_two_that_do_not(self):
        for word in ("aab", "baa", "abb", "bba", "abba", "baab", "aabb", "abaab", "ababb", "aaaaab"):
            self.check(word, 0, 1, False)

    def test_other_letters_do_not_count(self):
        self.check("acacb", 0, 1, False)
        self.check("acacb", 0, 2, True)
        self.check("accb", 0, 1, True)
        self.check("accb", 0, 2, False)
        self.check("acbcca", 0, 1, True)
        self.check("abcabc", 1, 2, True)
        self.check("dcdbdadccc", 1, 0, True)

    def test_ties_do_not_count(self):
        for web in ((2, ()), (2, ((0, 1),))):
            with self.subTest(web=web):
                self.assertIs(take_turns(web, "abab", 0, 1), True)
                self.assertIs(take_turns(web, "aabb", 0, 1), False)

    def test_all_short_words(self):
        for many, most in ((2, 8), (3, 6), (4, 5)):
            for length in range(many, most + 1):
                for word in samples.all_words(many, length):
                    for one, other in samples.all_pairs(many):
                        wanted = samples.go_by_turns(word, samples.LETTERS[one], samples.LETTERS[other])
                        self.assertIs(take_turns((many, ()), word, one, other), wanted, (word, one, other))
                        self.assertIs(take_turns((many, ()), word, other, one), wanted, (word, other, one))

    def test_no_web_goes_first(self):
        for web in samples.NO_WEBS:
            for word, one, other in (("abcd", 0, 1), ("x", 0, 1), ("abcd", 9, 1), (None, None, None)):
                with self.subTest(web=web, word=word):
                    with self.assertRaises(NoWeb):
                        take_turns(web, word, one, other)

    def test_no_word_goes_ahead_of_no_place(self):
        for word in samples.NO_WORDS_OF_THREE:
            for one, other in ((0, 1), (0, 0), (9, 1), (0, 9), (None, True)):
                with self.subTest(word=word, one=one, other=other):
                    with self.assertRaises(NoWord):
                        take_turns((3, ()), word, one, other)

    def test_no_place(self):
        for place in samples.NO_PLACES + (3, 4):
            with self.subTest(place=place):
                with self.assertRaises(NoPlace):
                    take_turns((3, ()), "abc", place, 2)
                with self.assertRaises(NoPlace):
                    take_turns((3, ()), "abc", 2, place)
                with self.assertRaises(NoPlace):
                    take_turns((3, ()), "abc", place, place)

    def test_the_second_place_is_the_first_one(self):
        for many in range(1, 7):
            for place in range(many):
                with self.subTest(many=many, place=place):
                    with self.assertRaises(NoPlace):
                        take_turns((many, ()), samples.LETTERS[:many], place, place)


class TurnedWeb(unittest.TestCase):
    """[12]: the web that a word shows."""

    def test_by_hand(self):
        for many, word, ties in SHOWN:
            with self.subTest(word=word):
                self.assertEqual(turned_web(many, word), (many, ties))

    def test_what_is_told_is_a_web(self):
        for many, word, _ in SHOWN:
            with self.subTest(word=word):
                self.assertIs(is_web(turned_web(many, word)), True)

    def test_all_short_words(self):
        for many, most in ((1, 4), (2, 8), (3, 6), (4, 6), (5, 5)):
            for length in range(many, most + 1):
                for word in samples.all_words(many, length):
                    self.assertEqual(turned_web(many, word), samples.shown(many, word), word)

    def test_no_number(self):
        for many in samples.NO_MANY:
            for word in ("a", "abcdef", "", "x", None, 4):
                with self.subTest(many=many, word=word):
                    with self.assertRaises(NoNumber):
                        turned_web(many, word)

    def test_no_word(self):
        for word in samples.NO_WORDS_OF_THREE:
            with self.subTest(word=word):
                with self.assertRaises(NoWord):
                    turned_web(3, word)
        for many in range(1, 7):
            for word in (samples.LETTERS[:many] + "g", samples.LETTERS[:many - 1], samples.LETTERS[:many].upper()):
                with self.subTest(many=many, word=word):
                    with self.assertRaises(NoWord):
                        turned_web(many, word)


class Shows(unittest.TestCase):
    """[12]: whether a word shows a web."""

    def test_just_the_web_that_it_shows(self):
        for many, word, ties in SHOWN:
            with self.subTest(word=word):
                self.assertIs(shows((many, ties), word), True)

    def test_one_tie_more_or_fewer(self):
        for many, word, ties in SHOWN:
            for pair in samples.all_pairs(many):
                off = tuple(sorted(set(ties) ^ {pair}))
                with self.subTest(word=word, off=off):
                    self.assertIs(shows((many, off), word), False)

    def test_all_webs_of_three_places(self):
        for word in ("abc", "abcb", "aabc", "cabac", "aabbcc", "abcacb"):
            for web in samples.all_webs(3):
                with self.subTest(word=word, web=web):
                    self.assertIs(shows(web, word), web == samples.shown(3, word))

    def test_no_web_goes_first(self):
        for web in samples.NO_WEBS:
            for word in ("abcd", "x", None, []):
                with self.subTest(web=web, word=word):
                    with self.assertRaises(NoWeb):
                        shows(web, word)

    def test_no_word(self):
        for word in samples.NO_WORDS_OF_THREE:
            with self.subTest(word=word):
                with self.assertRaises(NoWord):
                    shows((3, ()), word)


class NothingIsChanged(unittest.TestCase):
    """[4]: what is handed in stays as it is; the same asked again has the same answer."""

    def test_what_is_told(self):
        for thing in samples.NO_WEBS + (PATH, ALL_SIX):
            with self.subTest(thing=thing):
                samples.ask_twice(self, is_web, thing)
                samples.ask_twice(self, is_word, thing, PATH)
        for many, word, ties in SHOWN:
            with self.subTest(word=word):
                samples.ask_twice(self, turned_web, many, word)
                samples.ask_twice(self, shows, (many, ties), word)
        samples.ask_twice(self, take_turns, PATH, "abcdabcd", 3, 1)

    def test_what_is_refused(self):
        for thing in ([4, [[0, 1]]], {"a": [1]}, (4, [(0, 1)])):
            kept = copy.deepcopy(thing)
            for ask in (lambda web: is_word([web], web), lambda web: shows(web, web),
                        lambda web: take_turns(web, web, web, web), lambda web: turned_web(web, web)):
                for _ in range(2):
                    with self.subTest(thing=thing):
                        self.assertRaises((NoWeb, NoNumber), ask, thing)
                        self.assertEqual(thing, kept)


if __name__ == "__main__":
    unittest.main()
