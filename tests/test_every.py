import copy
import unittest

import samples
from turnletters.errors import NoNumber, NoWeb, TooMany
from turnletters.every import by_webs, kinds, words_many, words_of
from turnletters.often import even_many, least_letters, shortest
from turnletters.webs import is_web, is_word, shows
from turnletters.words import from_behind, longer, times

EDGE = (2, ((0, 1),))
PATH = (3, ((0, 1), (1, 2)))
OF_WEBS = (words_of, words_many, kinds)

# What is no number from 0 to 6.
NO_NUMBERS = samples.NO_NUMBERS + (7, 8, -7, "6", [6], (6,), {6: 6}, EDGE)


def all_of(web):
    """All words of up to six letters that show the web, by lengths."""
    return [[word for word in samples.all_words(web[0], length) if samples.shown(web[0], word) == web]
            for length in range(7)]


def often(many, word):
    return tuple(word.count(letter) for letter in samples.LETTERS[:many])


class WordsOf(unittest.TestCase):
    """[81]: all words of so many letters that show a web."""

    def test_by_hand(self):
        for web, number, wanted in (
                ((1, ()), 0, []), ((1, ()), 1, ["a"]), ((1, ()), 6, ["aaaaaa"]), ((2, ()), 2, []),
                ((2, ()), 3, ["aab", "abb", "baa", "bba"]), (EDGE, 0, []), (EDGE, 1, []), (EDGE, 2, ["ab", "ba"]),
                (EDGE, 3, ["aba", "bab"]), (EDGE, 6, ["ababab", "bababa"]), (PATH, 2, []), (PATH, 3, []),
                (PATH, 4, ["abac", "acbc", "caba", "cbca"])):
            with self.subTest(web=web, number=number):
                self.assertEqual(words_of(web, number), wanted)

    def test_all_webs(self):
        for many in range(1, 4):
            for web in samples.all_webs(many):
                for number, words in enumerate(all_of(web)):
                    with self.subTest(web=web, number=number):
                        self.assertEqual(words_of(web, number), words)
                        self.assertIs(type(words_of(web, number)), list)
                        self.assertEqual(words_many(web, number), len(words))
                        self.assertIs(type(words_many(web, number)), int)

    def test_they_are_rising_words_that_show_the_web(self):
        for many in range(1, 4):
            for web in samples.all_webs(many):
                for number in range(7):
                    told = words_of(web, number)
                    with self.subTest(web=web, number=number):
                        self.assertEqual(told, sorted(set(told)))
                        for word in told:
                            self.assertIs(is_word(word, web), True)
                            self.assertIs(shows(web, word), True)
                            self.assertEqual(len(word), number)

    def test_the_shortest_and_the_even_ones_are_among_them(self):
        for web in samples.all_webs(3):
            least = least_letters(web)
            with self.subTest(web=web):
                self.assertEqual([words_many(web, number) for number in range(least)], [0] * least)
                self.assertEqual(words_of(web, least)[0], shortest(web))
                self.assertEqual(kinds(web, 6).get((2, 2, 2), 0), even_many(web, 2))

    def test_the_list_is_the_askers_own(self):
        told = words_of(EDGE, 2)
        told[0] = "x"
        told.append("y")
        self.assertEqual(words_of(EDGE, 2), ["ab", "ba"])
        self.assertEqual(words_many(EDGE, 2), 2)
        words_of(EDGE, 2).clear()
        words_of(EDGE, 1).append("z")
        self.assertEqual(words_of(EDGE, 1), [])
        self.assertIsNot(words_of(EDGE, 1), words_of(EDGE, 1))


class Kinds(unittest.TestCase):
    """[82]: how many words have each letter how often."""

    def test_by_hand(self):
        for web, number, wanted in (
                ((1, ()), 0, {}), ((1, ()), 3, {(3,): 1}), (EDGE, 2, {(1, 1): 2}), (EDGE, 3, {(1, 2): 1, (2, 1): 1}),
                (EDGE, 4, {(2, 2): 2}), ((2, ()), 3, {(1, 2): 2, (2, 1): 2}), ((2, ()), 2, {}), (PATH, 2, {})):
            with self.subTest(web=web, number=number):
                self.assertEqual(kinds(web, number), wanted)

    def test_all_webs(self):
        for many in range(1, 4):
            for web in samples.all_webs(many):
                for number, words in enumerate(all_of(web)):
                    wanted = {}
                    for word in words:
                        wanted[often(many, word)] = wanted.get(often(many, word), 0) + 1
                    told = kinds(web, number)
                    with self.subTest(web=web, number=number):
                        self.assertEqual(told, wanted)
                        self.assertIs(type(told), dict)
                        self.assertTrue(all(type(count) is int and count > 0 for count in told.values()))

    def test_the_dict_is_the_askers_own(self):
        told = kinds(EDGE, 2)
        told[(1, 1)] = 9
        told["x"] = 1
        self.assertEqual(kinds(EDGE, 2), {(1, 1): 2})
        kinds(EDGE, 2).clear()
        kinds(EDGE, 1)["x"] = 1
        self.assertEqual(kinds(EDGE, 1), {})
        self.assertEqual(kinds(EDGE, 2), {(1, 1): 2})


class ByWebs(unittest.TestCase):
    """[83]: how many words show each web of so many places."""

    def test_by_hand(self):
        for many, number, wanted in (
                (1, 0, {}), (1, 1, {(1, ()): 1}), (1, 6, {(1, ()): 1}), (2, 0, {}), (2, 1, {}), (2, 2, {EDGE: 2}),
                (2, 3, {EDGE: 2, (2, ()): 4}), (2, 6, {EDGE: 2, (2, ()): 60}), (3, 2, {}),
                (3, 3, {(3, samples.all_pairs(3)): 6})):
            with self.subTest(many=many, number=number):
                self.assertEqual(by_webs(many, number), wanted)

    def test_each_web_that_some_word_shows_and_no_other_one(self):
        for many in range(1, 4):
            for number in range(7):
                wanted = {}
                for word in samples.all_words(many, number):
                    web = samples.shown(many, word)
                    wanted[web] = wanted.get(web, 0) + 1
                told = by_webs(many, number)
                with self.subTest(many=many, number=number):
                    self.assertEqual(told, wanted)
                    self.assertIs(type(told), dict)
                    for web in told:
                        self.assertIs(is_web(web), True)
                    for web in samples.all_webs(many):
                        self.assertEqual(told.get(web, 0), words_many(web, number))

    def test_the_dict_is_the_askers_own(self):
        told = by_webs(2, 2)
        told[EDGE] = 9
        told["x"] = 1
        self.assertEqual(by_webs(2, 2), {EDGE: 2})
        by_webs(2, 2).clear()
        by_webs(2, 1)["x"] = 1
        self.assertEqual(by_webs(2, 1), {})
        self.assertEqual(by_webs(2, 2), {EDGE: 2})

    def test_no_number(self):
        for many in samples.NO_NUMBERS[:-1] + (0, 4, 5, 6, 7, 10 ** 29, "3", [3], (3,), {1: 1}, EDGE):
            for number in (0, 3, 6, 7, -1, None):
                with self.subTest(many=many, number=number):
                    self.assertRaises(NoNumber, by_webs, many, number)
        for number in NO_NUMBERS:
            for many in (1, 2, 3):
                with self.subTest(many=many, number=number):
                    self.assertRaises(NoNumber, by_webs, many, number)


class WhatFollows(unittest.TestCase):
    """[84]: what comes of these."""

    def test_kinds_come_together_to_all_words(self):
        for many in range(1, 4):
            for web in samples.all_webs(many):
                for number in range(7):
                    told = kinds(web, number)
                    with self.subTest(web=web, number=number):
                        self.assertEqual(sum(told.values()), words_many(web, number))
                        self.assertEqual(set(told), {times(web, word) for word in words_of(web, number)})

    def test_some_with_as_many_letters_more_as_places(self):
        for many in range(1, 4):
            for web in samples.all_webs(many):
                for number in range(7 - many):
                    more = words_of(web, number + many)
                    for word in words_of(web, number):
                        self.assertIn(longer(web, word), more, (web, word))

    def test_from_behind_each_is_one_of_the_same_kind(self):
        for many in range(1, 4):
            for web in samples.all_webs(many):
                for number in range(7):
                    words = words_of(web, number)
                    for word in words:
                        self.assertIn(from_behind(web, word), words, (web, word))
                        self.assertEqual(times(web, from_behind(web, word)), times(web, word))


class Refused(unittest.TestCase):
    """[5], [81]: NoWeb ahead of all else, then NoNumber, then TooMany."""

    def test_no_web_goes_first(self):
        for web in samples.NO_WEBS:
            for ask in OF_WEBS:
                for number in (0, 3, 6, 7, -1, True, None, "1", [], web):
                    with self.subTest(ask=ask.__name__, web=web, number=number):
                        self.assertRaises(NoWeb, ask, web, number)

    def test_no_web_of_many_places(self):
        for web in ((5, samples.all_pairs(6)), (6, samples.all_pairs(6)[::-1]), (7, ()), (6, [])):
            for ask in OF_WEBS:
                with self.subTest(ask=ask.__name__, web=web):
                    self.assertRaises(NoWeb, ask, web, 3)
                    self.assertRaises(NoWeb, ask, web, 7)

    def test_no_number_goes_ahead_of_too_many(self):
        for many in range(1, 7):
            for number in NO_NUMBERS:
                for ask in OF_WEBS:
                    with self.subTest(ask=ask.__name__, many=many, number=number):
                        self.assertRaises(NoNumber, ask, (many, ()), number)
                        self.assertRaises(NoNumber, ask, (many, samples.all_pairs(many)), number)

    def test_too_many(self):
        for many in (4, 5, 6):
            for web in samples.some_webs(many):
                for number in range(7):
                    for ask in OF_WEBS:
                        with self.subTest(ask=ask.__name__, web=web, number=number):
                            self.assertRaises(TooMany, ask, web, number)


class NothingIsChanged(unittest.TestCase):
    """[4]: what is handed in stays as it is; the same asked again has the same answer."""

    def test_what_is_told(self):
        for web in samples.all_webs(3):
            for number in range(7):
                for ask in OF_WEBS:
                    with self.subTest(ask=ask.__name__, web=web, number=number):
                        samples.ask_twice(self, ask, web, number)
        for number in range(7):
            samples.ask_twice(self, by_webs, 3, number)

    def test_what_is_refused(self):
        for thing in ([0, 1], [[0]], {0: [1]}, [{"a": 1}], (0, [1])):
            kept = copy.deepcopy(thing)
            for _ in range(2):
                with self.subTest(thing=thing):
                    for ask in OF_WEBS:
                        self.assertRaises(NoNumber, ask, EDGE, thing)
                        self.assertRaises(NoWeb, ask, thing, thing)
                    self.assertRaises(NoNumber, by_webs, 2, thing)
                    self.assertRaises(NoNumber, by_webs, thing, thing)
                    self.assertEqual(thing, kept)


if __name__ == "__main__":
    unittest.main()
