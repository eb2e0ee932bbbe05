import copy
import unittest

import samples
from turnletters.changes import (
    beside, double_word, leaf_word, twin_word, with_double, with_leaf, with_twin, without, word_beside, word_without)
from turnletters.errors import NoPlace, NoWeb, NoWord, TooMany
from turnletters.search import word_for
from turnletters.webs import is_web, is_word, shows
from turnletters.words import longer

PATH = samples.path(4)
WORD = "abacbdcd"
SIX = (6, ((0, 1), (2, 5), (3, 4)))

WITH = (with_leaf, with_twin, with_double)
WITH_WORDS = (leaf_word, twin_word, double_word)


def webs(least, most):
    """Webs of so many places: all of up to four, some of more."""
    for many in range(least, most + 1):
        yield from samples.all_webs(many) if many < 5 else samples.some_webs(many)
    if most > 4:
        yield from list(samples.all_webs(most))[5::997]


def words(least, most):
    """Words of so many places, even ones and others."""
    for many in range(least, most + 1):
        for length in range(many, min(many + 3, 6)):
            yield from list(samples.all_words(many, length))[::7]
        yield from samples.rough_words(many)
        yield from samples.mixed_words(many, 2)


def words_of_eighty(least, most):
    for many in range(least, most + 1):
        letters = samples.LETTERS[:many]
        yield (letters * 80)[:80]
        yield (letters[::-1] * 80)[:80]
        yield letters[-1] * (80 - many) + letters
        yield letters[0] * (80 - many) + letters


def shown_by(word):
    return samples.shown(len(set(word)), word)


def renamed(word, names):
    """The word with each letter exchanged for the one told."""
    return "".join(names[letter] for letter in word)


def left_word(word, place):
    gone = samples.LETTERS[place]
    return renamed(word.replace(gone, ""), {sign: chr(ord(sign) - (sign > gone)) for sign in samples.LETTERS})


def moved(word, number):
    return renamed(word, {sign: chr(ord(sign) + number) for sign in samples.LETTERS})


def put(web, near):
    """The web with one place more, tied to those told."""
    many, ties = web
    return (many + 1, tuple(sorted(set(ties) | {(place, many) for place in near})))


class Without(unittest.TestCase):
    """[71]: a web, and a word, left without a place."""

    def test_webs_by_hand(self):
        for web, place, wanted in (
                ((2, ((0, 1),)), 0, (1, ())), ((2, ((0, 1),)), 1, (1, ())), (PATH, 0, (3, ((0, 1), (1, 2)))),
                (PATH, 1, (3, ((1, 2),))), (PATH, 2, (3, ((0, 1),))), (PATH, 3, (3, ((0, 1), (1, 2)))),
                (SIX, 0, (5, ((1, 4), (2, 3)))), (SIX, 4, (5, ((0, 1), (2, 4)))), (SIX, 5, (5, ((0, 1), (3, 4))))):
            with self.subTest(web=web, place=place):
                self.assertEqual(without(web, place), wanted)

    def test_webs(self):
        for web in webs(2, 6):
            for place in range(web[0]):
                told = without(web, place)
                wanted = samples.within(web, [other for other in range(web[0]) if other != place])
                self.assertEqual(told, wanted, (web, place))
                self.assertIs(is_web(told), True, (web, place))

    def test_words_by_hand(self):
        for word, place, wanted in (
                ("ab", 0, "a"), ("ab", 1, "a"), ("bab", 1, "a"), ("bab", 0, "aa"), (WORD, 0, "abacbc"),
                (WORD, 1, "aabcbc"), (WORD, 2, "ababcc"), (WORD, 3, "abacbc"), ("fedcbaf", 0, "edcbae"),
                ("fedcbaf", 5, "edcba"), ("fedcbaf", 3, "edcbae")):
            with self.subTest(word=word, place=place):
                self.assertEqual(word_without((len(set(word)), ()), word, place), wanted)

    def test_words(self):
        for word in list(words(2, 6)) + list(words_of_eighty(2, 6)):
            many = len(set(word))
            for place in range(many):
                told = word_without((many, ()), word, place)
                self.assertEqual(told, left_word(word, place), (word, place))
                self.assertIs(is_word(told, (many - 1, ())), True, (word, place))

    def test_the_word_still_shows_the_web(self):
        for word in list(words(2, 6)) + list(words_of_eighty(2, 6)):
            web = shown_by(word)
            for place in range(web[0]):
                self.assertIs(shows(without(web, place), word_without(web, word, place)), True, (word, place))

    def test_no_place_of_a_web_of_one_place(self):
        for place in (0, 1) + samples.NO_PLACES:
            with self.subTest(place=place):
                self.assertRaises(NoPlace, without, (1, ()), place)
                self.assertRaises(NoPlace, word_without, (1, ()), "aa", place)

    def test_no_place(self):
        for many in range(2, 7):
            for place in samples.NO_PLACES + (many, many + 1, -many):
                for web in ((many, ()), (many, samples.all_pairs(many))):
                    with self.subTest(web=web, place=place):
                        self.assertRaises(NoPlace, without, web, place)
                        self.assertRaises(NoPlace, word_without, web, samples.LETTERS[:many], place)


class Beside(unittest.TestCase):
    """[72]: two webs, and a word of each, beside one another."""

    def test_webs_by_hand(self):
        for web, other, wanted in (
                ((1, ()), (1, ()), (2, ())), ((2, ((0, 1),)), (1, ()), (3, ((0, 1),))),
                ((1, ()), (2, ((0, 1),)), (3, ((1, 2),))), ((2, ((0, 1),)), (2, ((0, 1),)), (4, ((0, 1), (2, 3)))),
                ((5, ((0, 4),)), (1, ()), (6, ((0, 4),))), ((1, ()), (5, ((0, 4), (1, 2))), (6, ((1, 5), (2, 3)))),
                (PATH, (2, ((0, 1),)), (6, ((0, 1), (1, 2), (2, 3), (4, 5))))):
            with self.subTest(web=web, other=other):
                self.assertEqual(beside(web, other), wanted)

    def test_webs(self):
        for web in webs(1, 5):
            for other in list(webs(1, 6 - web[0]))[::5] + [(6 - web[0], samples.all_pairs(6 - web[0]))]:
                told = beside(web, other)
                ties = set(web[1]) | {(one + web[0], two + web[0]) for one, two in other[1]}
                self.assertEqual(told, (web[0] + other[0], tuple(sorted(ties))), (web, other))
                self.assertIs(is_web(told), True)

    def test_each_of_the_two_is_in_it_and_no_tie_leads_across(self):
        for web in (PATH, (2, ()), (3, ((0, 2),))):
            for other in ((1, ()), (2, ((0, 1),)), (2, ())):
                told = beside(web, other)
                with self.subTest(web=web, other=other):
                    self.assertEqual(samples.within(told, range(web[0])), web)
                    self.assertEqual(samples.within(told, range(web[0], told[0])), other)
                    self.assertEqual(len(told[1]), len(web[1]) + len(other[1]))

    def test_words_by_hand(self):
        for word, more, wanted in (("a", "a", "aab"), ("ab", "ba", "ababdc"), ("bab", "a", "babab" + "c"),
                                   (WORD, "abba", "abcd" + WORD + "effe"), ("cba", "bac", "cbacbaedf"),
                                   ("aabcde", "aa", "abcdeaabcdeff"), ("a", "edcba", "aafedcb")):
            web, other = (len(set(word)), ()), (len(set(more)), ())
            with self.subTest(word=word, more=more):
                self.assertEqual(word_beside(web, word, other, more), wanted)

    def test_words(self):
        for word in list(words(1, 5))[::3] + list(words_of_eighty(1, 5)):
            web = shown_by(word)
            for more in list(words(1, 6 - web[0]))[::11] + list(words_of_eighty(1, 6 - web[0]))[::3]:
                other = shown_by(more)
                told = word_beside(web, word, other, more)
                self.assertEqual(told, longer(web, word) + moved(more, web[0]), (word, more))
                self.assertIs(shows(beside(web, other), told), True, (word, more))

    def test_ties_do_not_count_for_words(self):
        for web in samples.all_webs(3):
            for other in samples.all_webs(3):
                self.assertEqual(word_beside(web, "bcab", other, "cab"), "bcabcabfde")

    def test_too_many(self):
        for many in range(1, 7):
            for other in range(7 - many, 7):
                for one, two in (((many, ()), (other, ())), ((many, samples.all_pairs(many)), (other, ()))):
                    with self.subTest(one=one, two=two):
                        self.assertRaises(TooMany, beside, one, two)
                        word, more = samples.LETTERS[:many], samples.LETTERS[:other]
                        self.assertRaises(TooMany, word_beside, one, word, two, more)

    def test_just_six(self):
        for many in range(1, 6):
            with self.subTest(many=many):
                self.assertEqual(beside((many, ()), (6 - many, ())), (6, ()))

    def test_no_web_goes_ahead_of_all_else(self):
        for web in samples.NO_WEBS:
            with self.subTest(web=web):
                for other in (PATH, (1, ()), (6, ()), None, web):
                    self.assertRaises(NoWeb, beside, web, other)
                    self.assertRaises(NoWeb, beside, other, web)
                    for word, more in ((WORD, WORD), ("a", "a"), ("x", None), (None, "x")):
                        self.assertRaises(NoWeb, word_beside, web, word, other, more)
                        self.assertRaises(NoWeb, word_beside, other, word, web, more)

    def test_no_word_goes_ahead_of_too_many(self):
        for word in samples.NO_WORDS_OF_THREE:
            for other in ((1, ()), (3, ()), (4, ()), SIX):
                more = samples.LETTERS[:other[0]]
                with self.subTest(word=word, other=other):
                    self.assertRaises(NoWord, word_beside, (3, ()), word, other, more)
                    self.assertRaises(NoWord, word_beside, other, more, (3, ()), word)
                    self.assertRaises(NoWord, word_beside, (3, ()), word, (3, ()), word)

    def test_a_word_of_the_other_web(self):
        self.assertRaises(NoWord, word_beside, (1, ()), "ab", (2, ()), "a")
        self.assertRaises(NoWord, word_beside, (2, ()), "ab", (2, ()), "cd")


class OnePlaceMore(unittest.TestCase):
    """[73]: a leaf, a twin or a double put to a place."""

    def test_webs_by_hand(self):
        for ask, web, place, wanted in (
                (with_leaf, (1, ()), 0, (2, ((0, 1),))), (with_twin, (1, ()), 0, (2, ((0, 1),))),
                (with_double, (1, ()), 0, (2, ())),
                (with_leaf, PATH, 1, (5, ((0, 1), (1, 2), (1, 4), (2, 3)))),
                (with_twin, PATH, 1, (5, ((0, 1), (0, 4), (1, 2), (1, 4), (2, 3), (2, 4)))),
                (with_double, PATH, 1, (5, ((0, 1), (0, 4), (1, 2), (2, 3), (2, 4)))),
                (with_leaf, PATH, 3, (5, ((0, 1), (1, 2), (2, 3), (3, 4)))),
                (with_twin, PATH, 3, (5, ((0, 1), (1, 2), (2, 3), (2, 4), (3, 4)))),
                (with_double, PATH, 0, (5, ((0, 1), (1, 2), (1, 4), (2, 3)))),
                (with_double, (5, ()), 4, (6, ())), (with_leaf, (5, ()), 0, (6, ((0, 5),)))):
            with self.subTest(ask=ask.__name__, web=web, place=place):
                self.assertEqual(ask(web, place), wanted)

    def test_webs(self):
        for web in webs(1, 5):
            for place in range(web[0]):
                near = samples.near(web, place)
                for ask, tied in ((with_leaf, {place}), (with_twin, near | {place}), (with_double, near)):
                    told = ask(web, place)
                    self.assertEqual(told, put(web, tied), (ask.__name__, web, place))
                    self.assertIs(is_web(told), True, (ask.__name__, web, place))

    def test_words_by_hand(self):
        for ask, word, place, wanted in (
                (leaf_word, "a", 0, "bab"), (twin_word, "a", 0, "ab"), (double_word, "a", 0, "abba"),
                (leaf_word, "aba", 0, "cacbac"), (leaf_word, "aba", 1, "acbca"), (leaf_word, "baab", 0, "bcacacb"),
                (twin_word, "aba", 0, "acbac"), (twin_word, "aba", 1, "abca"), (twin_word, "baab", 0, "bacacb"),
                (double_word, "aba", 0, "acbcabca"), (double_word, "aba", 1, "abcacba"),
                (double_word, "baab", 0, "bacbcacab"), (double_word, "abb", 1, "abcacbcb"),
                (leaf_word, "edcba", 4, "fefdcba"), (twin_word, "edcba", 2, "edcfba"),
                (double_word, "edcba", 3, "edfcbaefdcba")):
            with self.subTest(ask=ask.__name__, word=word, place=place):
                self.assertEqual(ask((len(set(word)), ()), word, place), wanted)

    def test_words(self):
        for word in list(words(1, 5)) + list(words_of_eighty(1, 5)):
            many = len(set(word))
            for place in range(many):
                own, new = samples.LETTERS[place], samples.LETTERS[many]
                parts = word.split(own)
                leaf = parts[0] + new + "".join(own + new + part for part in parts[1:])
                twin = parts[0] + "".join(own + new + part for part in parts[1:])
                first, second, *rest = longer((many, ()), word).split(own)
                double = first + own + new + second + "".join(new + own + part for part in rest)
                for ask, wanted in ((leaf_word, leaf), (twin_word, twin), (double_word, double)):
                    told = ask((many, ()), word, place)
                    self.assertEqual(told, wanted, (ask.__name__, word, place))
                    self.assertIs(is_word(told, (many + 1, ())), True)

    def test_the_word_shows_the_web(self):
        for word in list(words(1, 5)) + list(words_of_eighty(1, 5)):
            web = shown_by(word)
            for place in range(web[0]):
                for ask, ask_word in zip(WITH, WITH_WORDS):
                    told = ask_word(web, word, place)
                    self.assertIs(shows(ask(web, place), told), True, (ask.__name__, word, place))

    def test_no_place_goes_ahead_of_too_many(self):
        for many in range(1, 7):
            for place in samples.NO_PLACES + (many, many + 1, -many):
                for web in ((many, ()), (many, samples.all_pairs(many))):
                    with self.subTest(web=web, place=place):
                        for ask in WITH:
                            self.assertRaises(NoPlace, ask, web, place)
                        for ask in WITH_WORDS:
                            self.assertRaises(NoPlace, ask, web, samples.LETTERS[:many] * 2, place)

    def test_too_many(self):
        for web in samples.some_webs(6):
            for place in range(6):
                with self.subTest(web=web, place=place):
                    for ask in WITH:
                        self.assertRaises(TooMany, ask, web, place)
                    for ask in WITH_WORDS:
                        self.assertRaises(TooMany, ask, web, "fedcbaabcdef", place)

    def test_no_word_goes_ahead_of_too_many(self):
        for word in ("abcde", "abcdefg", "", None, "ABCDEF", []):
            for place in (0, 5, 6, None):
                for ask in WITH_WORDS:
                    with self.subTest(ask=ask.__name__, word=word, place=place):
                        self.assertRaises(NoWord, ask, (6, ()), word, place)


class MadeOfOthers(unittest.TestCase):
    """[74]: a word made of words that show their webs shows the web made of these."""

    def test_one_after_the_other(self):
        for web in samples.all_webs(3):
            word = word_for(web)
            for place in range(3):
                for ask, ask_word in zip(WITH, WITH_WORDS):
                    four, word_of_four = ask(web, place), ask_word(web, word, place)
                    for last in range(4):
                        five, word_of_five = without(four, last), word_without(four, word_of_four, last)
                        self.assertIs(shows(five, word_of_five), True, (web, place, last))
                        told = word_beside(five, word_of_five, web, word)
                        self.assertIs(shows(beside(five, web), told), True, (web, place, last))

    def test_up_to_six_places(self):
        for first in WITH:
            for second in WITH:
                for third in WITH:
                    web, word = (3, ((0, 1), (1, 2))), "abac"
                    for ask, place in ((first, 1), (second, 0), (third, 3)):
                        word = WITH_WORDS[WITH.index(ask)](web, word, place)
                        web = ask(web, place)
                        self.assertIs(shows(web, word), True, (web, word))
                    self.assertEqual(web[0], 6)


class Refused(unittest.TestCase):
    """[5]: NoWeb ahead of all else, then from the left NoWord, NoPlace, then TooMany."""

    def test_no_web_goes_first(self):
        for web in samples.NO_WEBS:
            with self.subTest(web=web):
                for ask in WITH + (without,):
                    for place in (0, -1, 6, True, None):
                        self.assertRaises(NoWeb, ask, web, place)
                for ask in WITH_WORDS + (word_without,):
                    for word, place in ((WORD, 0), ("abcd", -1), ("x", 0), (None, None)):
                        self.assertRaises(NoWeb, ask, web, word, place)

    def test_no_word(self):
        for word in samples.NO_WORDS_OF_THREE:
            for place in (0, 2, 3, -1, True, None, "a", []):
                for ask in WITH_WORDS + (word_without,):
                    with self.subTest(ask=ask.__name__, word=word, place=place):
                        self.assertRaises(NoWord, ask, (3, ((0, 1),)), word, place)

    def test_no_word_goes_ahead_of_the_last_place(self):
        for word in ("", "b", "ab", None, []):
            with self.subTest(word=word):
                self.assertRaises(NoWord, word_without, (1, ()), word, 0)


class NothingIsChanged(unittest.TestCase):
    """[4]: what is handed in stays as it is; the same asked again has the same answer."""

    def test_what_is_told(self):
        for web in list(samples.all_webs(4))[::9]:
            for place in range(4):
                with self.subTest(web=web, place=place):
                    for ask in WITH + (without,):
                        samples.ask_twice(self, ask, web, place)
                    for ask in WITH_WORDS + (word_without,):
                        samples.ask_twice(self, ask, web, WORD, place)
                    samples.ask_twice(self, beside, web, (2, ((0, 1),)))
                    samples.ask_twice(self, word_beside, web, WORD, (2, ()), "bab")

    def test_what_is_refused(self):
        for thing in ([0, 1], [[0]], {0: [1]}, [{"a": 1}], (0, [1])):
            kept = copy.deepcopy(thing)
            for _ in range(2):
                with self.subTest(thing=thing):
                    for ask in WITH + (without,):
                        self.assertRaises(NoPlace, ask, PATH, thing)
                    for ask in WITH_WORDS + (word_without,):
                        self.assertRaises(NoPlace, ask, PATH, WORD, thing)
                        self.assertRaises(NoWord, ask, PATH, thing, thing)
                    self.assertRaises(NoWeb, beside, PATH, thing)
                    self.assertRaises(NoWord, word_beside, PATH, thing, PATH, thing)
                    self.assertEqual(thing, kept)


if __name__ == "__main__":
    unittest.main()
