import unittest

import samples
from turnletters.errors import NoWeb
from turnletters.runs import fault_of, first_good
from turnletters.search import word_for
from turnletters.webs import is_word, shows
from turnletters.words import firsts, is_even

# Two triangles, each place of the one tied to one of the other: no word with each letter twice shows it.
PRISM = (6, ((0, 1), (0, 2), (0, 3), (1, 2), (1, 4), (2, 5), (3, 4), (3, 5), (4, 5)))


def run_of_firsts(web, word):
    """The run in which each tie leads from the place whose letter comes first in the word."""
    order = firsts(web, word)
    return tuple(1 if order.index(one) < order.index(other) else -1 for one, other in web[1])


class WordFor(unittest.TestCase):
    """[34], [6]: a word that shows the web, None just where there is no good run."""

    def check(self, web):
        word = word_for(web)
        if word is None:
            self.assertIsNone(first_good(web), web)
        else:
            self.assertIsNotNone(first_good(web), web)
            self.assertIs(is_word(word, web), True, web)
            self.assertIs(shows(web, word), True, (web, word))
            self.assertEqual(samples.shown(web[0], word), web)
        return word

    def test_all_webs_of_one_to_five_places(self):
        for many in range(1, 6):
            for web in samples.all_webs(many):
                self.assertIsNotNone(self.check(web), web)

    def test_webs_of_six_places(self):
        for web in samples.some_webs(6) + list(samples.all_webs(6))[::23]:
            self.check(web)

    def test_rings_and_prisms(self):
        webs = [samples.ring(many) for many in range(3, 7)] + samples.all_numbered(PRISM)
        webs += [samples.path(many) for many in range(1, 7)]
        for web in webs:
            self.assertIsNotNone(self.check(web), web)

    def test_none_of_a_wheel(self):
        wheels = samples.all_numbered(samples.WHEEL)
        self.assertEqual(len(wheels), 72)
        for web in wheels:
            self.assertIs(self.check(web), None, web)

    def test_a_wheel_with_one_tie_more_or_fewer(self):
        for pair in samples.all_pairs(6):
            self.assertIsNotNone(self.check((6, tuple(sorted(set(samples.WHEEL[1]) ^ {pair})))))

    def test_the_same_asked_again(self):
        for web in (PRISM, samples.WHEEL, samples.ring(5), (1, ()), (6, ())):
            with self.subTest(web=web):
                self.assertEqual(word_for(web), word_for(web))

    def test_no_web(self):
        for web in samples.NO_WEBS:
            with self.subTest(web=web):
                self.assertRaises(NoWeb, word_for, web)


class WhatFollows(unittest.TestCase):
    """[34]: what a web's having a word comes with."""

    def test_in_some_words_each_letter_stands_as_often(self):
        for many in range(1, 5):
            for web in samples.all_webs(many):
                with self.subTest(web=web):
                    self.assertIs(is_even(web, word_for(web)), True)

    def test_the_run_of_the_firsts_is_good(self):
        for many in range(1, 6):
            for web in samples.all_webs(many):
                self.assertIsNone(fault_of(web, run_of_firsts(web, word_for(web))), web)

    def test_the_run_of_the_firsts_of_any_word_is_good(self):
        for many, most in ((2, 6), (3, 6), (4, 6)):
            for length in range(many, most + 1):
                for word in samples.all_words(many, length):
                    web = samples.shown(many, word)
                    self.assertIsNone(fault_of(web, run_of_firsts(web, word)), word)

    def test_without_a_place(self):
        for web in list(samples.all_webs(6))[7::1009] + [PRISM]:
            for place in range(6):
                left = samples.within(web, [other for other in range(6) if other != place])
                with self.subTest(web=web, place=place):
                    self.assertIs(shows(left, word_for(left)), True)

    def test_without_a_tie_of_a_place_that_has_no_other_one(self):
        for web in list(samples.all_webs(5))[::11]:
            leaf = (6, tuple(sorted(web[1] + ((2, 5),))))
            with self.subTest(web=web):
                self.assertIsNotNone(word_for(leaf))
                self.assertIsNotNone(word_for((6, web[1])))


if __name__ == "__main__":
    unittest.main()
