import copy
import unittest
from itertools import permutations, product

import samples
from turnletters.errors import NoNumber, NoRun, NoWeb, NoWord, TooMany
from turnletters.orders import first_passing, is_order_word, order_word, orders_of, passes_on
from turnletters.runs import fault_of, is_run
from turnletters.search import word_for
from turnletters.webs import is_word, shows, take_turns

TRIANGLE = (3, ((0, 1), (0, 2), (1, 2)))
PATH = samples.path(4)
ALL_SIX = (6, samples.all_pairs(6))

# Order words, and their orders.
ORDER_WORDS = (
    ("a", [(0,)]), ("aa", [(0,), (0,)]), ("a" * 80, [(0,)] * 80), ("ab", [(0, 1)]), ("ba", [(1, 0)]),
    ("abba", [(0, 1), (1, 0)]), ("abab", [(0, 1), (0, 1)]), ("ab" * 40, [(0, 1)] * 40), ("cab", [(2, 0, 1)]),
    ("abccba", [(0, 1, 2), (2, 1, 0)]), ("bcaabccab", [(1, 2, 0), (0, 1, 2), (2, 0, 1)]),
    ("acbdcdab", [(0, 2, 1, 3), (2, 3, 0, 1)]), ("edcbaabcde", [(4, 3, 2, 1, 0), (0, 1, 2, 3, 4)]),
    ("fedcba", [(5, 4, 3, 2, 1, 0)]), ("abcdef" * 13, [(0, 1, 2, 3, 4, 5)] * 13),
    ("abcdeffedcbaacebdf", [(0, 1, 2, 3, 4, 5), (5, 4, 3, 2, 1, 0), (0, 2, 4, 1, 3, 5)]),
)

# Words that are not made of orders.
NO_ORDER_WORDS = (
    # each letter as often, but a stretch has one twice
    "aabb", "bbaa", "aabbcc", "abacbc", "bcbaca", "abcbbcaca", "abcddcbbaacd", "ddccbbaa", "abcdeffedcbbaacdef",
    # a stretch that is not full
    "aba", "abb", "abcab", "abcc", "abcdabc", "abcdefabcde", "abcdeabcdeab", "ab" * 40 + "a",
    # of full stretches that aren't orders
    "abbb", "abaa", "abcabb", "aababc", "abcaabcbc", "abcdabcc", "abcdefabcdee",
    # led on, so that a stretch breaks
    "bbaa", "bccbaa", "aabbab", "bcdeedcbaa", "bcdeffedcbaa",
)

# What is no run of a path of four places.
NO_RUNS_OF_PATH = (
    (), (1,), (1, 1), (1, 1, 1, 1), (1, 0, 1), (2, 1, 1), (True, 1, 1), (1, -1, True), (False, 1, 1), (None, 1, 1),
    ("1", 1, 1), ((1,), 1, 1), ((1, 1, 1),), [1, 1, 1], [], "111", "", None, True, 0, 1, {}, {0: 1, 1: 1, 2: 1},
    (4, ()), (1, 1, [1]), (1, 10 ** 29, 1),
)


def web_for(word):
    return (len(set(word)), ())


def all_tied(word):
    many = len(set(word))
    return (many, samples.all_pairs(many))


def goes_on(web, run):
    """Whether the run passes on: a second way to tell, by going over all rows of three places."""
    leads = {tie if mark == 1 else tie[::-1] for tie, mark in zip(web[1], run)}
    return all((a, c) in leads for a, b, c in permutations(range(web[0]), 3) if (a, b) in leads and (b, c) in leads)


class OrderWords(unittest.TestCase):
    """[51]: words that are made of orders, and their orders."""

    def test_order_words(self):
        for word, orders in ORDER_WORDS:
            for web in (web_for(word), all_tied(word)):
                with self.subTest(word=word, web=web):
                    self.assertIs(is_order_word(web, word), True)
                    self.assertEqual(orders_of(web, word), orders)

    def test_kinds_of_what_is_told(self):
        for word, _ in ORDER_WORDS:
            told = orders_of(web_for(word), word)
            with self.subTest(word=word):
                self.assertIs(type(told), list)
                for order in told:
                    self.assertIs(type(order), tuple)
                    self.assertEqual({type(place) for place in order}, {int})

    def test_what_is_none(self):
        for word in NO_ORDER_WORDS:
            for web in (web_for(word), all_tied(word)):
                with self.subTest(word=word, web=web):
                    self.assertIs(is_order_word(web, word), False)
                    self.assertRaises(NoWord, orders_of, web, word)

    def test_all_short_words(self):
        for many, most in ((1, 3), (2, 8), (3, 6), (4, 6)):
            orders = ["".join(order) for order in permutations(samples.LETTERS[:many])]
            made = {"".join(row) for often in range(1, most // many + 1) for row in product(orders, repeat=often)}
            for length in range(many, most + 1):
                for word in samples.all_words(many, length):
                    self.assertIs(is_order_word((many, ()), word), word in made, word)

    def test_orders_put_together_are_the_word(self):
        for word in [word for word, _ in ORDER_WORDS] + ["cbadabcdbacd", "badcabcdcbad"]:
            told = orders_of(web_for(word), word)
            with self.subTest(word=word):
                self.assertEqual("".join(samples.LETTERS[place] for order in told for place in order), word)
                for order in told:
                    self.assertEqual(sorted(order), list(range(len(set(word)))))

    def test_two_take_turns_just_where_they_stand_the_same_way_about_in_all_orders(self):
        for many in (2, 3, 4):
            orders = list(permutations(range(many)))
            for row in list(product(orders, repeat=2)) + list(product(orders, repeat=3))[::11]:
                word = "".join(samples.LETTERS[place] for order in row for place in order)
                self.assertEqual(orders_of((many, ()), word), list(row))
                for one, other in samples.all_pairs(many):
                    same = len({order.index(one) < order.index(other) for order in row}) == 1
                    self.assertIs(take_turns((many, ()), word, one, other), same, (word, one, other))

    def test_no_word(self):
        for word in samples.NO_WORDS_OF_THREE:
            for web in ((3, ()), TRIANGLE):
                with self.subTest(word=word):
                    self.assertRaises(NoWord, is_order_word, web, word)
                    self.assertRaises(NoWord, orders_of, web, word)

    def test_the_orders_are_the_askers_own(self):
        told = orders_of((3, ()), "abccba")
        told[0] = "x"
        told.append((9,))
        again = orders_of((3, ()), "abccba")
        self.assertEqual(again, [(0, 1, 2), (2, 1, 0)])
        again.clear()
        self.assertEqual(orders_of((3, ()), "abccba"), [(0, 1, 2), (2, 1, 0)])
        self.assertIsNot(orders_of((3, ()), "abc"), orders_of((3, ()), "abc"))


class OrderWord(unittest.TestCase):
    """[52]: the first order word of so many orders that shows the web."""

    def test_by_hand(self):
        for web, number, wanted in (
                ((1, ()), 1, "a"), ((1, ()), 2, "aa"), ((2, ()), 1, None), ((2, ()), 2, "abba"),
                ((2, ((0, 1),)), 1, "ab"), ((2, ((0, 1),)), 2, "abab"), (TRIANGLE, 1, "abc"), (TRIANGLE, 2, "abcabc"),
                ((3, ()), 2, "abccba"), ((3, ((0, 1),)), 2, "abccab"), (PATH, 1, None), (PATH, 2, "acbdcdab"),
                ((4, samples.all_pairs(4)), 1, "abcd"), ((4, ()), 2, "abcddcba")):
            with self.subTest(web=web, number=number):
                self.assertEqual(order_word(web, number), wanted)

    def test_all_webs_of_one_to_four_places(self):
        for many in range(1, 5):
            orders = ["".join(order) for order in permutations(samples.LETTERS[:many])]
            for number in (1, 2):
                found = {}
                for word in sorted("".join(row) for row in product(orders, repeat=number)):
                    found.setdefault(samples.shown(many, word), word)
                for web in samples.all_webs(many):
                    with self.subTest(web=web, number=number):
                        self.assertEqual(order_word(web, number), found.get(web))

    def test_of_so_many_orders_and_it_shows_the_web(self):
        for many in range(1, 5):
            for web in samples.all_webs(many):
                for number in (1, 2):
                    word = order_word(web, number)
                    with self.subTest(web=web, number=number):
                        if word is None:
                            self.assertTrue(number == 1 and web[1] != samples.all_pairs(many))
                        else:
                            self.assertEqual(len(orders_of(web, word)), number)
                            self.assertIs(is_word(word, web), True)
                            self.assertIs(shows(web, word), True)

    def test_no_number(self):
        for many in range(1, 7):
            for number in samples.NO_ONE_OR_TWO:
                for web in ((many, ()), (many, samples.all_pairs(many))):
                    with self.subTest(web=web, number=number):
                        self.assertRaises(NoNumber, order_word, web, number)

    def test_too_many(self):
        for many in (5, 6):
            for web in samples.some_webs(many):
                for number in (1, 2):
                    with self.subTest(web=web, number=number):
                        self.assertRaises(TooMany, order_word, web, number)


class PassesOn(unittest.TestCase):
    """[53]: whether a run passes on."""

    def test_by_hand(self):
        for web, run, wanted in (
                ((1, ()), (), True), ((6, ()), (), True), ((2, ((0, 1),)), (1,), True), ((2, ((0, 1),)), (-1,), True),
                (PATH, (1, 1, 1), False), (PATH, (1, -1, 1), True), (PATH, (-1, 1, -1), True),
                (PATH, (1, -1, -1), False), (PATH, (1, 1, -1), False), (TRIANGLE, (1, 1, 1), True),
                (TRIANGLE, (-1, -1, -1), True),
                (TRIANGLE, (1, -1, 1), False), (TRIANGLE, (-1, 1, -1), False), (TRIANGLE, (1, 1, -1), True),
                (ALL_SIX, (1,) * 15, True), (ALL_SIX, (1,) * 14 + (-1,), True), (ALL_SIX, (-1,) + (1,) * 14, True),
                (ALL_SIX, (1, -1) + (1,) * 13, False), ((3, ((0, 2), (1, 2))), (1, 1), True),
                ((3, ((0, 2), (1, 2))), (1, -1), False)):
            with self.subTest(web=web, run=run):
                self.assertIs(passes_on(web, run), wanted)

    def test_all_runs_of_webs_of_one_to_four_places(self):
        for many in range(1, 5):
            for web in samples.all_webs(many):
                for run in samples.all_runs(web):
                    self.assertIs(passes_on(web, run), goes_on(web, run), (web, run))

    def test_runs_of_webs_of_six_places(self):
        for web in samples.some_webs(6)[1::5] + [samples.WHEEL, samples.ring(6)]:
            for run in list(samples.all_runs(web))[::251]:
                self.assertIs(passes_on(web, run), goes_on(web, run), (web, run))

    def test_no_run(self):
        for thing in NO_RUNS_OF_PATH + samples.ODD_THINGS:
            with self.subTest(thing=thing):
                self.assertRaises(NoRun, passes_on, PATH, thing)

    def test_no_run_of_a_web_without_ties(self):
        for thing in ((1,), (-1,), [], None, "", (0,), (True,), {}):
            with self.subTest(thing=thing):
                self.assertRaises(NoRun, passes_on, (3, ()), thing)


class FirstPassing(unittest.TestCase):
    """[53]: the first run that passes on."""

    def test_by_hand(self):
        for web, wanted in (
                ((1, ()), ()), ((6, ()), ()), ((2, ((0, 1),)), (-1,)), (PATH, (-1, 1, -1)), (TRIANGLE, (-1, -1, -1)),
                (samples.ring(4), (-1, -1, 1, -1)), (samples.ring(5), None), (ALL_SIX, (-1,) * 15),
                (samples.ring(6), (-1, -1, 1, -1, 1, -1)), (samples.WHEEL, None)):
            with self.subTest(web=web):
                self.assertEqual(first_passing(web), wanted)

    def test_all_webs_of_one_to_five_places(self):
        for many in range(1, 6):
            for web in samples.all_webs(many):
                if many < 5 or len(web[1]) < 7:
                    passing = [run for run in samples.all_runs(web) if goes_on(web, run)]
                    self.assertEqual(first_passing(web), passing[0] if passing else None, web)

    def test_none_of_five_places_but_of_a_ring(self):
        rings = samples.all_numbered(samples.ring(5))
        self.assertEqual(len(rings), 12)
        for web in samples.all_webs(5):
            self.assertIs(first_passing(web) is None, web in rings, web)

    def test_no_run_ahead_of_it_passes_on_up_to_fifteen_ties(self):
        for web in samples.some_webs(6) + list(samples.all_webs(6))[3::1511]:
            told = first_passing(web)
            for run in samples.all_runs(web):
                if run == told:
                    break
                self.assertIs(goes_on(web, run), False, (web, run))
            if told is not None:
                self.assertIs(goes_on(web, told), True, web)
                self.assertIs(passes_on(web, told), True, web)
                self.assertIs(is_run(told, web), True, web)


class WhatFollows(unittest.TestCase):
    """[53]: what comes of a run that passes on."""

    def test_it_is_good(self):
        for many in range(1, 5):
            for web in samples.all_webs(many):
                for run in samples.all_runs(web):
                    if passes_on(web, run):
                        self.assertIsNone(fault_of(web, run), (web, run))
        for web in list(samples.all_webs(6))[::101]:
            run = first_passing(web)
            if run is not None:
                self.assertIsNone(fault_of(web, run), web)

    def test_order_words_show_just_such_webs(self):
        for many in (2, 3, 4):
            orders = ["".join(order) for order in permutations(samples.LETTERS[:many])]
            for row in product(orders, repeat=2):
                self.assertIsNotNone(first_passing(samples.shown(many, "".join(row))), row)
        for word in samples.mixed_words(6, 1):
            for other in ("abcdef", "fdbace", "cadbfe"):
                self.assertIsNotNone(first_passing(samples.shown(6, word + other)), word + other)

    def test_one_place_tied_to_all_others(self):
        for many in range(2, 6):
            for web in samples.all_webs(many):
                hub = (many + 1, tuple(sorted(web[1] + tuple((at, many) for at in range(many)))))
                self.assertIs(word_for(hub) is None, first_passing(web) is None, web)


class Refused(unittest.TestCase):
    """[5]: NoWeb ahead of all else, then NoWord, NoNumber, NoRun, then TooMany."""

    def test_no_web_goes_first(self):
        for web in samples.NO_WEBS:
            with self.subTest(web=web):
                self.assertRaises(NoWeb, first_passing, web)
                for thing in ("abcd", "x", (1, 1), 1, 2, 3, True, None, [], web):
                    for ask in (is_order_word, orders_of, order_word, passes_on):
                        self.assertRaises(NoWeb, ask, web, thing)

    def test_no_web_of_many_places(self):
        for web in ((5, samples.all_pairs(6)), (6, samples.all_pairs(6)[::-1]), (7, ()), (6, [])):
            for number in (1, 3):
                with self.subTest(web=web):
                    self.assertRaises(NoWeb, order_word, web, number)


class NothingIsChanged(unittest.TestCase):
    """[4]: what is handed in stays as it is; the same asked again has the same answer."""

    def test_what_is_told(self):
        for word in [word for word, _ in ORDER_WORDS]:
            with self.subTest(word=word):
                samples.ask_twice(self, is_order_word, web_for(word), word)
                samples.ask_twice(self, orders_of, web_for(word), word)
        for web in list(samples.all_webs(4))[::5]:
            with self.subTest(web=web):
                for number in (1, 2):
                    samples.ask_twice(self, order_word, web, number)
                samples.ask_twice(self, passes_on, web, (1,) * len(web[1]))
                samples.ask_twice(self, first_passing, web)

    def test_what_is_refused(self):
        for thing in ([0, 1], [[0]], {0: [1]}, [{"a": 1}], (0, [1])):
            kept = copy.deepcopy(thing)
            for _ in range(2):
                with self.subTest(thing=thing):
                    self.assertRaises(NoWord, is_order_word, PATH, thing)
                    self.assertRaises(NoWord, orders_of, PATH, thing)
                    self.assertRaises(NoNumber, order_word, PATH, thing)
                    self.assertRaises(NoRun, passes_on, PATH, thing)
                    self.assertRaises(NoWeb, first_passing, thing)
                    self.assertEqual(thing, kept)


if __name__ == "__main__":
    unittest.main()
