import copy
import unittest

import samples
from turnletters.chords import (
    are_alike, first_alike, is_chord_word, web_at, web_by_two, word_at, word_by_two)
from turnletters.errors import NoPlace, NoWeb, NoWord
from turnletters.webs import is_web, is_word, shows, take_turns
from turnletters.words import from_behind, led_on

PATH = samples.path(4)
WORD = "abacbdcd"

# Words of three places that are no chord words.
NO_CHORD_WORDS_OF_THREE = (
    "abc", "cab", "aabc", "abcc", "abcab", "abcabca", "aabbccc", "aaabbcc", "aaabbbccc", "aaabbc", "abbbcc",
    "abcabcabc", "aabbcccc", "abccba" * 2, "ab" * 39 + "cc", "abcabb",
)

# Each function with what it takes behind a web and a chord word.
OF_WORDS = ((word_at, (0,)), (word_by_two, (0, 1)), (are_alike, (WORD,)), (first_alike, ()))


def web_for(word):
    return (len(set(word)), ())


def chord_words():
    """All chord words of one to three places, and some of four to six."""
    for many in range(1, 4):
        yield from samples.each_so_often(many, 2)
    yield from samples.each_so_often(4, 2)[::31]
    for many in (5, 6):
        yield from samples.mixed_words(many, 2)


def turned(web, place):
    """The web turned at the place, by sets."""
    swapped = set(samples.combinations(sorted(samples.near(web, place)), 2))
    return (web[0], tuple(sorted(set(web[1]) ^ swapped)))


def turned_word(word, place):
    letter = samples.LETTERS[place]
    ahead, between, behind = word.split(letter)
    return ahead + letter + between[::-1] + letter + behind


def webs():
    """Webs of one to six places."""
    for many in range(1, 5):
        yield from samples.all_webs(many)
    for many in (5, 6):
        yield from samples.some_webs(many)
    yield from list(samples.all_webs(6))[::977]


class IsChordWord(unittest.TestCase):
    """[61]: words in which each letter stands just twice."""

    def test_all_words_of_few_letters(self):
        for many, most in ((1, 4), (2, 6), (3, 7)):
            for length in range(many, most + 1):
                for word in samples.all_words(many, length):
                    wanted = all(word.count(letter) == 2 for letter in samples.LETTERS[:many])
                    self.assertIs(is_chord_word((many, ()), word), wanted, word)

    def test_chord_words(self):
        for word in chord_words():
            for web in (web_for(word), (len(set(word)), samples.all_pairs(len(set(word))))):
                self.assertIs(is_chord_word(web, word), True, (web, word))

    def test_one_letter_more_or_fewer(self):
        for many in range(1, 7):
            letters = samples.LETTERS[:many]
            for letter in letters:
                with self.subTest(many=many, letter=letter):
                    self.assertIs(is_chord_word((many, ()), letters * 2), True)
                    self.assertIs(is_chord_word((many, ()), letters * 2 + letter), False)
                    self.assertIs(is_chord_word((many, ()), letters + letters.replace(letter, "") + letter), True)
                    if many > 1:
                        self.assertIs(is_chord_word((many, ()), letters + letters.replace(letter, "")), False)

    def test_once_and_three_times(self):
        for many in range(1, 7):
            for often in (1, 3, 4, 80 // many):
                with self.subTest(many=many, often=often):
                    self.assertIs(is_chord_word((many, ()), samples.LETTERS[:many] * often), False)
        # as many letters as a chord word has, but not so
        for word in ("aaab", "abbb", "aaabbc", "abcccb"):
            with self.subTest(word=word):
                self.assertIs(is_chord_word(web_for(word), word), False)

    def test_no_word(self):
        for word in samples.NO_WORDS_OF_THREE:
            with self.subTest(word=word):
                self.assertRaises(NoWord, is_chord_word, (3, ((0, 1),)), word)


class TurnedAtAPlace(unittest.TestCase):
    """[62]: webs and words turned at a place."""

    def test_webs_by_hand(self):
        star = (4, ((0, 1), (0, 2), (0, 3)))
        for web, place, wanted in (
                ((1, ()), 0, ()), ((2, ((0, 1),)), 1, ((0, 1),)), (PATH, 0, PATH[1]),
                (PATH, 1, ((0, 1), (0, 2), (1, 2), (2, 3))), (star, 0, samples.all_pairs(4)), (star, 1, star[1]),
                ((4, samples.all_pairs(4)), 3, ((0, 3), (1, 3), (2, 3))), ((6, ()), 5, ()),
                (samples.ring(5), 2, ((0, 1), (0, 4), (1, 2), (1, 3), (2, 3), (3, 4)))):
            with self.subTest(web=web, place=place):
                self.assertEqual(web_at(web, place), (web[0], wanted))

    def test_webs(self):
        for web in webs():
            for place in range(web[0]):
                told = web_at(web, place)
                self.assertEqual(told, turned(web, place), (web, place))
                self.assertIs(is_web(told), True)

    def test_words_by_hand(self):
        for word, place, wanted in (
                ("aa", 0, "aa"), ("abab", 0, "abab"), ("abba", 0, "abba"), ("abcacb", 0, "acbacb"),
                ("abcacb", 1, "abcacb"), (WORD, 0, WORD), (WORD, 1, "abcabdcd"), (WORD, 2, "abacdbcd"),
                ("abcdeeabcd", 0, "aeedcbabcd"), ("fabcdefedcba", 5, "fedcbafedcba"), ("bacddabc", 0, "baddcabc")):
            with self.subTest(word=word, place=place):
                self.assertEqual(word_at(web_for(word), word, place), wanted)

    def test_words(self):
        for word in chord_words():
            for place in range(len(set(word))):
                told = word_at(web_for(word), word, place)
                self.assertEqual(told, turned_word(word, place), (word, place))
                self.assertIs(is_chord_word(web_for(word), told), True)

    def test_ties_do_not_count_for_words(self):
        for web in list(samples.all_webs(4))[::5]:
            for place in range(4):
                with self.subTest(web=web, place=place):
                    self.assertEqual(word_at(web, "acbdacdb", place), turned_word("acbdacdb", place))

    def test_the_word_turned_shows_the_web_turned(self):
        for word in chord_words():
            web = samples.shown(len(set(word)), word)
            for place in range(web[0]):
                self.assertIs(shows(web_at(web, place), word_at(web, word, place)), True, (word, place))

    def test_turned_twice(self):
        for web in webs():
            for place in range(web[0]):
                self.assertEqual(web_at(web_at(web, place), place), web, (web, place))
        for word in chord_words():
            web = web_for(word)
            for place in range(web[0]):
                self.assertEqual(word_at(web, word_at(web, word, place), place), word, (word, place))

    def test_no_place(self):
        for many in range(1, 7):
            for place in samples.NO_PLACES + (many, many + 1, -many):
                for web in ((many, ()), (many, samples.all_pairs(many))):
                    with self.subTest(web=web, place=place):
                        self.assertRaises(NoPlace, web_at, web, place)
                        self.assertRaises(NoPlace, word_at, web, samples.LETTERS[:many] * 2, place)


class TurnedByTwo(unittest.TestCase):
    """[63]: webs and words turned by two places that are tied."""

    def test_webs_by_hand(self):
        for web, one, other, wanted in (
                ((2, ((0, 1),)), 0, 1, ((0, 1),)), (PATH, 0, 1, ((0, 1), (0, 2), (2, 3))),
                (PATH, 1, 2, ((0, 2), (0, 3), (1, 2), (1, 3))), (PATH, 3, 2, ((0, 1), (1, 3), (2, 3))),
                ((3, samples.all_pairs(3)), 0, 2, samples.all_pairs(3))):
            with self.subTest(web=web, one=one, other=other):
                self.assertEqual(web_by_two(web, one, other), (web[0], wanted))

    def test_webs(self):
        for web in webs():
            for one, other in web[1]:
                wanted = turned(turned(turned(web, one), other), one)
                self.assertEqual(web_by_two(web, one, other), wanted, (web, one, other))
                self.assertIs(is_web(wanted), True)

    def test_the_web_is_the_same_whichever_is_the_first(self):
        for web in webs():
            for one, other in web[1]:
                self.assertEqual(web_by_two(web, one, other), web_by_two(web, other, one), (web, one, other))

    def test_words(self):
        for word in chord_words():
            many = len(set(word))
            web = (many, samples.all_pairs(many))
            for one in range(many):
                for other in range(many):
                    if one != other:
                        wanted = turned_word(turned_word(turned_word(word, one), other), one)
                        self.assertEqual(word_by_two(web, word, one, other), wanted, (word, one, other))

    def test_the_word_is_the_same_where_the_letters_take_turns(self):
        for word in chord_words():
            web = samples.shown(len(set(word)), word)
            for one, other in web[1]:
                told = word_by_two(web, word, one, other)
                self.assertIs(take_turns(web, word, one, other), True)
                self.assertEqual(told, word_by_two(web, word, other, one), (word, one, other))

    def test_where_they_do_not_the_word_may_not_be(self):
        web = (3, ((0, 1),))
        self.assertIs(take_turns(web, "abbcac", 0, 1), False)
        self.assertEqual(word_by_two(web, "abbcac", 0, 1), "abbcac")
        self.assertEqual(word_by_two(web, "abbcac", 1, 0), "acbbac")

    def test_the_word_shows_the_web(self):
        for word in chord_words():
            web = samples.shown(len(set(word)), word)
            for one, other in web[1]:
                for first, second in ((one, other), (other, one)):
                    told = word_by_two(web, word, first, second)
                    self.assertIs(shows(web_by_two(web, first, second), told), True, (word, first, second))

    def test_no_place_of_two_that_are_not_tied(self):
        for web in list(samples.all_webs(4)) + samples.some_webs(5) + samples.some_webs(6):
            word = samples.LETTERS[:web[0]] * 2
            for one in range(web[0]):
                for other in range(web[0]):
                    if (min(one, other), max(one, other)) not in web[1]:
                        with self.subTest(web=web, one=one, other=other):
                            self.assertRaises(NoPlace, web_by_two, web, one, other)
                            self.assertRaises(NoPlace, word_by_two, web, word, one, other)

    def test_no_place(self):
        for many in range(1, 7):
            web, word = (many, samples.all_pairs(many)), samples.LETTERS[:many] * 2
            for place in samples.NO_PLACES + (many, many + 1):
                for one, other in ((place, 0), (0, place), (place, place), (many - 1, place)):
                    with self.subTest(web=web, one=one, other=other):
                        self.assertRaises(NoPlace, web_by_two, web, one, other)
                        self.assertRaises(NoPlace, word_by_two, web, word, one, other)


class Alike(unittest.TestCase):
    """[64]: words that are alike round the ring."""

    def alikes(self, word):
        """All that are alike to the word: led on by each number of letters, straight or from behind."""
        web = web_for(word)
        for straight in (word, from_behind(web, word)):
            for number in range(len(word) + 1):
                yield led_on(web, straight, number)

    def test_led_on_and_from_behind(self):
        for word in list(chord_words())[::3]:
            for other in self.alikes(word):
                self.assertIs(are_alike(web_for(word), word, other), True, (word, other))
                self.assertIs(are_alike(web_for(word), other, word), True, (word, other))

    def test_just_these(self):
        for many in (1, 2, 3):
            words = samples.each_so_often(many, 2)
            for word in words:
                alikes = set(self.alikes(word))
                for other in words:
                    self.assertIs(are_alike((many, ()), word, other), other in alikes, (word, other))

    def test_such_that_are_not(self):
        for word, other in (("aabb", "abab"), ("abab", "abba"), ("abcabc", "abcacb"), ("aabbcc", "abbacc"),
                            ("abacbdcd", "abacdbcd"), ("aabbccdd", "aaccbbdd"), ("abcdabcd", "abcdacbd"),
                            ("abcdefabcdef", "abcdeffedcba"), ("aabcbc", "aabccb"), ("abacbc", "acabcb")):
            with self.subTest(word=word, other=other):
                self.assertIs(are_alike(web_for(word), word, other), False)
                self.assertIs(are_alike(web_for(word), other, word), False)
                self.assertNotEqual(first_alike(web_for(word), word), first_alike(web_for(word), other))

    def test_ties_do_not_count(self):
        for web in samples.all_webs(3):
            with self.subTest(web=web):
                self.assertIs(are_alike(web, "abacbc", "bcabac"), True)
                self.assertIs(are_alike(web, "abacbc", "abcabc"), False)
                self.assertEqual(first_alike(web, "cbcaba"), "abacbc")

    def test_first_alike_by_hand(self):
        for word, wanted in (("aa", "aa"), ("abab", "abab"), ("baba", "abab"), ("abba", "aabb"), ("bbaa", "aabb"),
                             ("cbcaba", "abacbc"), ("ccbbaa", "aabbcc"), ("cbabca", "abcacb"), ("dcbadcba", "abcdabcd"),
                             ("acbdacdb", "abdcadbc"), ("bdcadbca", "abdcadbc"), ("fedcbafedcba", "abcdefabcdef")):
            with self.subTest(word=word):
                self.assertEqual(first_alike(web_for(word), word), min(self.alikes(word)))
                self.assertEqual(first_alike(web_for(word), word), wanted)

    def test_the_first_of_all_that_are_alike(self):
        for word in chord_words():
            self.assertEqual(first_alike(web_for(word), word), min(self.alikes(word)), word)

    def test_words_that_are_alike_have_the_same_first_and_others_another(self):
        for many in (2, 3):
            words = samples.each_so_often(many, 2)
            for word in words:
                for other in words:
                    same = first_alike((many, ()), word) == first_alike((many, ()), other)
                    self.assertIs(are_alike((many, ()), word, other), same, (word, other))


class Refused(unittest.TestCase):
    """[5]: NoWeb ahead of all else, then from the left NoWord, NoPlace."""

    def test_no_web_goes_first(self):
        for web in samples.NO_WEBS:
            with self.subTest(web=web):
                for word in (WORD, "abcd", "x", None):
                    self.assertRaises(NoWeb, is_chord_word, web, word)
                    for ask, more in OF_WORDS:
                        self.assertRaises(NoWeb, ask, web, word, *more)
                        self.assertRaises(NoWeb, ask, web, word, *[None for _ in more])
                for place in (0, -1, True, None):
                    self.assertRaises(NoWeb, web_at, web, place)
                    self.assertRaises(NoWeb, web_by_two, web, place, 1)

    def test_no_chord_word(self):
        for word in samples.NO_WORDS_OF_THREE + NO_CHORD_WORDS_OF_THREE:
            for web in ((3, ((0, 1),)), (3, ())):
                with self.subTest(word=word, web=web):
                    for place in (0, 2, 3, -1, True, None, "a", []):
                        self.assertRaises(NoWord, word_at, web, word, place)
                        self.assertRaises(NoWord, word_by_two, web, word, 0, place)
                        self.assertRaises(NoWord, word_by_two, web, word, place, 1)
                    self.assertRaises(NoWord, first_alike, web, word)
                    for other in ("abcabc", word, None):
                        self.assertRaises(NoWord, are_alike, web, word, other)
                        self.assertRaises(NoWord, are_alike, web, other, word)

    def test_a_chord_word_of_another_web(self):
        for web, word in (((3, ()), "abab"), ((2, ()), "abcabc"), ((1, ()), "abab"), ((6, ()), "aa"), ((1, ()), "bb")):
            with self.subTest(web=web, word=word):
                self.assertRaises(NoWord, is_chord_word, web, word)
                self.assertRaises(NoWord, word_at, web, word, 0)
                self.assertRaises(NoWord, first_alike, web, word)
                self.assertRaises(NoWord, are_alike, web, samples.LETTERS[:web[0]] * 2, word)


class NothingIsChanged(unittest.TestCase):
    """[4]: what is handed in stays as it is; the same asked again has the same answer."""

    def test_what_is_told(self):
        for web in list(samples.all_webs(4))[1::5]:
            one, other = web[1][0]
            with self.subTest(web=web):
                samples.ask_twice(self, is_chord_word, web, WORD)
                samples.ask_twice(self, web_at, web, one)
                samples.ask_twice(self, word_at, web, WORD, other)
                samples.ask_twice(self, web_by_two, web, one, other)
                samples.ask_twice(self, word_by_two, web, WORD, one, other)
                samples.ask_twice(self, are_alike, web, WORD, "abcdabcd")
                samples.ask_twice(self, first_alike, web, WORD)

    def test_what_is_refused(self):
        for thing in ([0, 1], [[0]], {0: [1]}, [{"a": 1}], (0, [1])):
            kept = copy.deepcopy(thing)
            for _ in range(2):
                with self.subTest(thing=thing):
                    self.assertRaises(NoWord, is_chord_word, PATH, thing)
                    self.assertRaises(NoPlace, web_at, PATH, thing)
                    self.assertRaises(NoPlace, web_by_two, PATH, 0, thing)
                    for ask, more in OF_WORDS:
                        self.assertRaises(NoWord, ask, PATH, thing, *more)
                    self.assertRaises(NoPlace, word_at, PATH, WORD, thing)
                    self.assertRaises(NoPlace, word_by_two, PATH, WORD, thing, thing)
                    self.assertRaises(NoWord, are_alike, PATH, WORD, thing)
                    self.assertEqual(thing, kept)


if __name__ == "__main__":
    unittest.main()
