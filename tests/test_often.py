import copy
import unittest

import samples
from turnletters.errors import NoNumber, NoWeb, TooMany
from turnletters.often import even_many, first_even, least_letters, shortest
from turnletters.webs import is_word, shows
from turnletters.words import times

TRIANGLE = (3, ((0, 1), (0, 2), (1, 2)))
PATH = samples.path(4)


def by_shown_web(many, words):
    """For each web of so many places that one of the words shows, the words that show it, in their order."""
    found = {}
    for word in words:
        found.setdefault(samples.shown(many, word), []).append(word)
    return found


class FirstEven(unittest.TestCase):
    """[41]: the first word that has each letter so often and shows the web."""

    def test_by_hand(self):
        for web, number, wanted in (
                ((1, ()), 1, "a"), ((1, ()), 2, "aa"), ((2, ()), 1, None), ((2, ()), 2, "aabb"),
                ((2, ((0, 1),)), 1, "ab"), ((2, ((0, 1),)), 2, "abab"), ((3, ()), 2, "aabbcc"), (TRIANGLE, 1, "abc"),
                (TRIANGLE, 2, "abcabc"), ((3, ((0, 1),)), 2, "ababcc"), ((3, ((0, 2),)), 2, "abbcac"),
                ((3, ((1, 2),)), 2, "aabcbc"), ((3, ((0, 1), (1, 2))), 1, None), ((4, ()), 2, "aabbccdd"),
                (PATH, 1, None), ((4, samples.all_pairs(4)), 1, "abcd"), ((4, samples.all_pairs(4)), 2, "abcdabcd")):
            with self.subTest(web=web, number=number):
                self.assertEqual(first_even(web, number), wanted)

    def test_all_webs_of_one_to_four_places(self):
        for many in range(1, 5):
            for number in (1, 2):
                found = by_shown_web(many, samples.each_so_often(many, number))
                for web in samples.all_webs(many):
                    with self.subTest(web=web, number=number):
                        self.assertEqual(first_even(web, number), found.get(web, [None])[0])

    def test_it_shows_the_web_and_has_each_letter_so_often(self):
        for many in range(1, 5):
            for web in samples.all_webs(many):
                word = first_even(web, 2)
                with self.subTest(web=web):
                    self.assertIs(is_word(word, web), True)
                    self.assertIs(shows(web, word), True)
                    self.assertEqual(times(web, word), (2,) * many)

    def test_no_number(self):
        for many in range(1, 7):
            for number in samples.NO_ONE_OR_TWO:
                for web in ((many, ()), (many, samples.all_pairs(many))):
                    with self.subTest(web=web, number=number):
                        self.assertRaises(NoNumber, first_even, web, number)
                        self.assertRaises(NoNumber, even_many, web, number)

    def test_too_many(self):
        for many in (5, 6):
            for web in samples.some_webs(many):
                for number in (1, 2):
                    with self.subTest(web=web, number=number):
                        self.assertRaises(TooMany, first_even, web, number)


class EvenMany(unittest.TestCase):
    """[41]: how many words have each letter so often and show the web."""

    def test_by_hand(self):
        for web, number, wanted in (
                ((1, ()), 1, 1), ((1, ()), 2, 1), ((2, ()), 1, 0), ((2, ((0, 1),)), 1, 2), ((2, ()), 2, 4),
                ((2, ((0, 1),)), 2, 2), (TRIANGLE, 1, 6), (TRIANGLE, 2, 6), ((3, ()), 1, 0)):
            with self.subTest(web=web, number=number):
                self.assertEqual(even_many(web, number), wanted)

    def test_all_webs_of_one_to_three_places(self):
        for many in range(1, 4):
            for number in (1, 2):
                found = by_shown_web(many, samples.each_so_often(many, number))
                for web in samples.all_webs(many):
                    with self.subTest(web=web, number=number):
                        told = even_many(web, number)
                        self.assertEqual(told, len(found.get(web, [])))
                        self.assertIs(type(told), int)
                        self.assertIs(told == 0, first_even(web, number) is None)

    def test_too_many(self):
        for many in (4, 5, 6):
            for web in samples.some_webs(many):
                for number in (1, 2):
                    with self.subTest(web=web, number=number):
                        self.assertRaises(TooMany, even_many, web, number)


class Shortest(unittest.TestCase):
    """[42]: the fewest letters of a word that shows the web, and the first such word."""

    def test_by_hand(self):
        for web, wanted in (((1, ()), "a"), ((2, ()), "aab"), ((2, ((0, 1),)), "ab"), (TRIANGLE, "abc"),
                            ((3, ()), "aabbc"), ((3, ((0, 1), (1, 2))), "abac"), ((4, ()), "aabbccd"),
                            ((4, samples.all_pairs(4)), "abcd")):
            with self.subTest(web=web):
                self.assertEqual(shortest(web), wanted)
                self.assertEqual(least_letters(web), len(wanted))

    def test_held_against_all_words_by_lengths_and_in_order(self):
        for many in range(1, 5):
            found = {}
            for length in range(many, 2 * many + 1):
                if len(found) < 2 ** len(samples.all_pairs(many)):
                    for word in samples.all_words(many, length):
                        found.setdefault(samples.shown(many, word), word)
            self.assertEqual(len(found), 2 ** len(samples.all_pairs(many)))
            for web, word in found.items():
                with self.subTest(web=web):
                    self.assertEqual(shortest(web), word)
                    self.assertEqual(least_letters(web), len(word))
                    self.assertIs(type(least_letters(web)), int)

    def test_it_shows_the_web_and_has_so_many_letters(self):
        for many in range(1, 5):
            for web in samples.all_webs(many):
                with self.subTest(web=web):
                    self.assertIs(shows(web, shortest(web)), True)
                    self.assertEqual(sum(times(web, shortest(web))), least_letters(web))

    def test_too_many(self):
        for many in (5, 6):
            for web in samples.some_webs(many):
                with self.subTest(web=web):
                    self.assertRaises(TooMany, least_letters, web)
                    self.assertRaises(TooMany, shortest, web)


class WhatFollows(unittest.TestCase):
    """[43]: what comes of these."""

    def test_with_each_letter_once_just_the_web_of_all_ties(self):
        for many in range(1, 5):
            for web in samples.all_webs(many):
                with self.subTest(web=web):
                    self.assertIs(first_even(web, 1) is not None, web[1] == samples.all_pairs(many))

    def test_with_each_letter_twice_each_web(self):
        for many in range(1, 5):
            for web in samples.all_webs(many):
                with self.subTest(web=web):
                    self.assertIsNotNone(first_even(web, 2))

    def test_the_shortest_is_no_longer_than_that(self):
        for many in range(1, 5):
            for web in samples.all_webs(many):
                with self.subTest(web=web):
                    self.assertLessEqual(least_letters(web), len(first_even(web, 2)))
                    self.assertGreaterEqual(least_letters(web), many)


class Refused(unittest.TestCase):
    """[5]: NoWeb ahead of all else, then NoNumber, then TooMany."""

    def test_no_web_goes_first(self):
        for web in samples.NO_WEBS:
            with self.subTest(web=web):
                for ask in (least_letters, shortest):
                    self.assertRaises(NoWeb, ask, web)
                for number in (1, 2, 0, 3, True, None, "1", [], web):
                    self.assertRaises(NoWeb, first_even, web, number)
                    self.assertRaises(NoWeb, even_many, web, number)

    def test_no_web_of_many_places(self):
        for web in ((5, samples.all_pairs(6)), (6, samples.all_pairs(6)[::-1]), (7, ()), (6, [])):
            with self.subTest(web=web):
                for ask in (least_letters, shortest):
                    self.assertRaises(NoWeb, ask, web)
                self.assertRaises(NoWeb, first_even, web, 3)
                self.assertRaises(NoWeb, even_many, web, 3)


class NothingIsChanged(unittest.TestCase):
    """[4]: what is handed in stays as it is; the same asked again has the same answer."""

    def test_what_is_told(self):
        for web in list(samples.all_webs(3)) + list(samples.all_webs(4))[::7]:
            with self.subTest(web=web):
                for number in (1, 2):
                    samples.ask_twice(self, first_even, web, number)
                    if web[0] < 4:
                        samples.ask_twice(self, even_many, web, number)
                samples.ask_twice(self, least_letters, web)
                samples.ask_twice(self, shortest, web)

    def test_what_is_refused(self):
        for thing in ([4, [[0, 1]]], {"a": [1]}, [1], (4, [(0, 1)])):
            kept = copy.deepcopy(thing)
            for _ in range(2):
                with self.subTest(thing=thing):
                    for ask in (first_even, even_many):
                        self.assertRaises(NoWeb, ask, thing, thing)
                        self.assertRaises(NoNumber, ask, PATH, thing)
                    for ask in (least_letters, shortest):
                        self.assertRaises(NoWeb, ask, thing)
                    self.assertEqual(thing, kept)


if __name__ == "__main__":
    unittest.main()
