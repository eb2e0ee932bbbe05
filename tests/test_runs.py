import copy
import unittest
from itertools import permutations

import samples
from turnletters.errors import NoRun, NoWeb, TooMany
from turnletters.runs import fault_of, first_good, good_many, is_fault, is_run

TRIANGLE = (3, ((0, 1), (0, 2), (1, 2)))
PATH = samples.path(4)
RING = samples.ring(4)
# Three that are tied all round, and one that hangs on one of them.
KITE = (4, ((0, 1), (0, 2), (1, 2), (2, 3)))
ALL_FOUR = (4, samples.all_pairs(4))
ALL_FIVE = (5, samples.all_pairs(5))
RING_OF_FIVE = samples.ring(5)
# Two triangles, each place of the one tied to one of the other.
PRISM = (6, ((0, 1), (0, 2), (0, 3), (1, 2), (1, 4), (2, 5), (3, 4), (3, 5), (4, 5)))

# What is no run of this path of three ties.
NO_RUNS_OF_PATH = (
    (), (1,), (1, 1), (1, 1, 1, 1), (-1, -1), (-1, 1, -1, 1), (1, -1, 1, -1, 1), (1, 0, 1), (0, 1, 1), (1, 1, 0),
    (2, 1, 1), (1, -2, 1), (1, 1, 2), (-1, -1, -2), (0, 0, 0), (True, 1, 1), (1, True, -1), (1, 1, True),
    (True, True, True), (False, 1, 1), (1, -1, False), (None, 1, 1), (1, None, 1), (1, 1, None), ("1", 1, 1),
    ("1", "1", "1"), (1, "-1", 1), ("+", "-", "+"), ((1,), 1, 1), ((1, 1, 1),), (1, (1,), 1), (1, 1, [1]), (1, {}, 1),
    (10 ** 29, 1, 1), (1, -10 ** 29, 1), ((0, 1), (1, 2), (2, 3)), [1, 1, 1], [1, -1, 1], [], "111", "1 1 1", "+-+", "",
    None, True, False, 0, 1, -1, 3, 10 ** 29, {}, {0: 1, 1: 1, 2: 1}, {1: 1, -1: 1, 2: 1}, {"a": (1, 1, 1)}, (4, ()),
)

# A web, a run of it, and its faults.
FAULTS = (
    (TRIANGLE, (1, -1, 1), [("round", (0, 1, 2)), ("round", (1, 2, 0)), ("round", (2, 0, 1))]),
    (TRIANGLE, (-1, 1, -1), [("round", (0, 2, 1)), ("round", (2, 1, 0)), ("round", (1, 0, 2))]),
    (TRIANGLE, (1, 1, 1), []),
    # the ring's ties are (0, 1), (0, 3), (1, 2), (2, 3)
    (RING, (1, -1, 1, 1), [("round", (0, 1, 2, 3)), ("round", (1, 2, 3, 0)), ("round", (2, 3, 0, 1)),
                           ("round", (3, 0, 1, 2))]),
    (RING, (1, 1, 1, 1), [("short", (0, 1, 2, 3))]),
    (RING, (-1, 1, 1, 1), []),
    (RING, (-1, -1, -1, -1), [("short", (3, 2, 1, 0))]),
    (RING, (1, 1, -1, -1), [("short", (0, 3, 2, 1))]),
    (RING, (1, 1, -1, 1), []),
    # of all ties: a short has two that aren't tied
    (ALL_FOUR, (1, 1, 1, 1, 1, 1), []),
    # without (0, 2), and without (1, 3)
    ((4, ((0, 1), (0, 3), (1, 2), (1, 3), (2, 3))), (1, 1, 1, 1, 1), [("short", (0, 1, 2, 3))]),
    ((4, ((0, 1), (0, 2), (0, 3), (1, 2), (2, 3))), (1, 1, 1, 1, 1), [("short", (0, 1, 2, 3))]),
    (RING_OF_FIVE, (1, 1, 1, 1, 1), [("short", (0, 1, 2, 3, 4))]),
    (samples.ring(6), (1, 1, 1, 1, 1, 1), [("short", (0, 1, 2, 3, 4, 5))]),
    (PATH, (1, 1, 1), []),
    ((6, ()), (), []),
)

# What is no fault of any run.
NO_FAULTS = samples.ODD_THINGS + (
    "round", "short", ("round",), ("short",), ("round", ()), ("short", ()), ("round", (0,)), ("short", (0,)),
    ("round", None), ("short", None), ("round", 0), ("round", "012"), ("round", "abc"), ("round", {}), ("short", []),
    ("round", [[0], [1]]), ("round", ((),)), ("round", (None, None, None)), ("round", ("a", "b", "c")), (("round",), ()),
    ("round", (0, 1)), ("round", (1, 0)), ("short", (0, 1)), ("round", (0, 1, 0)), ("round", (6, 7, 8)),
    ("round", (-1, 0, 1)), ("round", ({}, [], ())),
)


def off_by_one(fault):
    """Things that are nearly the fault, and none."""
    name, places = fault
    last = places[-1]
    return (
        ({"round": "short", "short": "round"}[name], places), (name.upper(), places), (name + " ", places),
        ("", places), (None, places), (0, places), ([name], places), ((name,), places), ({name: name}, places),
        (name, list(places)), [name, places], [name, list(places)], {name: places}, {0: name, 1: places}, (places, name),
        (name, places, places), (name, places, None), (name, places, ()), (name,), (places,), places, name,
        (name,) + places, ((name, places),), (name, (places,)), (name, places + places), (name, places + places[:1]),
        (name, places[:1] + places), (name, places[:-1] + (places[0],)), (name, places + (last,)), (name, places[:-1]),
        (name, places[1:]), (name, places[::-1]), (name, places[:-1] + (6,)), (name, places[:-1] + (-1,)),
        (name, places[:-1] + (10 ** 29,)), (name, places[:-1] + (str(last),)), (name, places[:-1] + ((last,),)),
        (name, places[:-1] + ([last],)), (name, places[:-1] + (None,)), (name, "".join(str(place) for place in places)),
        (name, {place: place for place in places}),
        (name, tuple(place == 1 if place in (0, 1) else place for place in places)),
    )


class IsRun(unittest.TestCase):
    """[31], [32]: what is a run of a web, and what is none."""

    def test_runs(self):
        for web in (TRIANGLE, PATH, RING, ALL_FOUR, (1, ()), (6, ()), RING_OF_FIVE):
            for run in samples.all_runs(web):
                with self.subTest(web=web, run=run):
                    self.assertIs(is_run(run, web), True)

    def test_runs_of_fifteen_ties(self):
        web = (6, samples.all_pairs(6))
        for run in ((1,) * 15, (-1,) * 15, (1, -1) * 7 + (1,)):
            with self.subTest(run=run):
                self.assertIs(is_run(run, web), True)
                self.assertIs(is_run(run[1:], web), False)
                self.assertIs(is_run(run + (1,), web), False)

    def test_without_ties(self):
        for many in range(1, 7):
            with self.subTest(many=many):
                self.assertIs(is_run((), (many, ())), True)
                for thing in ((1,), (-1,), (0,), (True,), [], "", None, {}, False, 0, ((),)):
                    self.assertIs(is_run(thing, (many, ())), False, thing)

    def test_what_is_none(self):
        for thing in NO_RUNS_OF_PATH + samples.ODD_THINGS:
            with self.subTest(thing=thing):
                self.assertIs(is_run(thing, PATH), False)

    def test_each_mark_alone_is_enough(self):
        for at in range(10):
            for mark in (0, 2, -2, True, False, None, "1", "", (1,), [1], {}, 10 ** 29):
                with self.subTest(at=at, mark=mark):
                    self.assertIs(is_run((1,) * at + (mark,) + (-1,) * (9 - at), ALL_FIVE), False)


class IsFault(unittest.TestCase):
    """[31], [32]: what is a fault of a run, and what is none."""

    def test_by_hand(self):
        for web, run, faults in FAULTS:
            for fault in faults:
                with self.subTest(web=web, run=run, fault=fault):
                    self.assertIs(is_fault(fault, web, run), True)

    def test_just_these(self):
        for web, run, faults in FAULTS:
            for size in range(1, min(web[0], 5) + 1):
                for places in permutations(range(web[0]), size):
                    for name in ("round", "short"):
                        thing = (name, places)
                        self.assertIs(is_fault(thing, web, run), thing in faults, (web, run, thing))

    def test_all_runs_of_all_webs_of_four_places(self):
        rows = [row for size in range(1, 5) for row in permutations(range(4), size)]
        for web in samples.all_webs(4):
            for run in samples.all_runs(web):
                faults = samples.all_faults(web, run)
                told = [(name, row) for row in rows for name in ("round", "short") if is_fault((name, row), web, run)]
                self.assertEqual(sorted(told), sorted(faults), (web, run))

    def test_rounds_and_shorts_of_more_places(self):
        for web in (RING_OF_FIVE, ALL_FIVE, PRISM, samples.WHEEL):
            for run in list(samples.all_runs(web))[::97]:
                for fault in samples.all_faults(web, run):
                    self.assertIs(is_fault(fault, web, run), True, (web, run, fault))

    def test_a_round_from_each_of_its_places_on(self):
        for many in range(3, 7):
            web = samples.ring(many)
            # All lead on by one, and the last one to the first.
            run = tuple(1 if other == one + 1 else -1 for one, other in web[1])
            row = tuple(range(many))
            for at in range(many):
                with self.subTest(many=many, at=at):
                    self.assertIs(is_fault(("round", row[at:] + row[:at]), web, run), True)
                    self.assertIs(is_fault(("round", (row[at:] + row[:at])[::-1]), web, run), False)
                    self.assertIs(is_fault(("short", row[at:] + row[:at]), web, run), False)

    def test_a_short_from_its_first_place_on_alone(self):
        for many in range(4, 7):
            web = samples.ring(many)
            run = (1,) * many
            row = tuple(range(many))
            for at in range(many):
                with self.subTest(many=many, at=at):
                    self.assertIs(is_fault(("short", row[at:] + row[:at]), web, run), at == 0)
                    self.assertIs(is_fault(("round", row[at:] + row[:at]), web, run), False)
                    self.assertIs(is_fault(("short", (row[at:] + row[:at])[::-1]), web, run), False)

    def test_no_short_where_each_two_are_tied(self):
        for many in range(4, 7):
            web = (many, samples.all_pairs(many))
            with self.subTest(many=many):
                self.assertIs(is_fault(("short", tuple(range(many))), web, (1,) * len(web[1])), False)

    def test_no_short_of_three_places(self):
        # Of the whole web some two aren't tied, but of these three each two are.
        self.assertIs(is_fault(("short", (0, 1, 2)), KITE, (1, 1, 1, 1)), False)
        self.assertIs(is_fault(("short", (0, 1, 2)), TRIANGLE, (1, 1, 1)), False)

    def test_no_short_whose_first_does_not_lead_to_its_last(self):
        self.assertIs(is_fault(("short", (0, 1, 2, 3)), PATH, (1, 1, 1)), False)
        self.assertIs(is_fault(("short", (0, 1, 2, 3)), RING, (1, -1, 1, 1)), False)

    def test_nearly_a_fault(self):
        for web, run, faults in FAULTS:
            for fault in faults:
                for thing in off_by_one(fault):
                    with self.subTest(web=web, fault=fault, thing=thing):
                        self.assertIs(is_fault(thing, web, run), False)

    def test_a_truth_is_no_place(self):
        self.assertIs(is_fault(("round", (0, 1, 2)), TRIANGLE, (1, -1, 1)), True)
        for places in ((False, 1, 2), (0, True, 2), (False, True, 2)):
            with self.subTest(places=places):
                self.assertIs(is_fault(("round", places), TRIANGLE, (1, -1, 1)), False)

    def test_things_of_other_kinds(self):
        for thing in NO_FAULTS:
            for web, run, _ in FAULTS:
                with self.subTest(thing=thing, web=web, run=run):
                    self.assertIs(is_fault(thing, web, run), False)


class FaultOf(unittest.TestCase):
    """[32]: some fault of a run, None where it is good."""

    def check(self, web, run, faults):
        fault = fault_of(web, run)
        if faults:
            self.assertIn(fault, faults, (web, run))
            self.assertIs(is_fault(fault, web, run), True, (web, run))
        else:
            self.assertIsNone(fault, (web, run))

    def test_by_hand(self):
        for web, run, faults in FAULTS:
            with self.subTest(web=web, run=run):
                self.check(web, run, faults)

    def test_all_runs_of_all_webs_of_few_places(self):
        for many in range(1, 5):
            for web in samples.all_webs(many):
                for run in samples.all_runs(web):
                    self.check(web, run, samples.all_faults(web, run))

    def test_some_runs_of_webs_of_more_places(self):
        webs = samples.some_webs(5)[::3] + [RING_OF_FIVE, samples.ring(6), PRISM, samples.WHEEL]
        for web in webs:
            for run in list(samples.all_runs(web))[::29]:
                self.check(web, run, samples.all_faults(web, run))

    def test_all_runs_of_a_wheel_have_one(self):
        for run in samples.all_runs(samples.WHEEL):
            self.assertIs(is_fault(fault_of(samples.WHEEL, run), samples.WHEEL, run), True, run)


class GoodRuns(unittest.TestCase):
    """[33]: the first good run, and how many there are."""

    def test_first_by_hand(self):
        for web, run in (((1, ()), ()), ((6, ()), ()), ((2, ((0, 1),)), (-1,)), (PATH, (-1, -1, -1)),
                         (TRIANGLE, (-1, -1, -1)), (ALL_FOUR, (-1,) * 6), ((6, samples.all_pairs(6)), (-1,) * 15),
                         (RING, (-1, -1, -1, 1)), (RING_OF_FIVE, (-1, -1, -1, -1, 1)),
                         ((4, ((0, 2), (0, 3), (1, 2), (1, 3))), (-1, -1, -1, -1)), (samples.WHEEL, None)):
            with self.subTest(web=web):
                self.assertEqual(first_good(web), run)

    def test_all_webs_of_few_places(self):
        for many in range(1, 5):
            for web in samples.all_webs(many):
                good = samples.all_good(web)
                with self.subTest(web=web):
                    self.assertEqual(first_good(web), good[0])
                    self.assertEqual(good_many(web), len(good))

    def test_webs_of_five_places(self):
        for web in list(samples.all_webs(5))[::31]:
            if len(web[1]) <= 7:
                good = samples.all_good(web)
                with self.subTest(web=web):
                    self.assertEqual(first_good(web), good[0])
                    self.assertEqual(good_many(web), len(good))

    def test_the_first_one_of_more_places(self):
        # No run ahead of it is good, and it is.
        webs = list(samples.all_webs(6))[5::1999] + samples.all_numbered(PRISM)[::20]
        for web in webs:
            told = first_good(web)
            for run in samples.all_runs(web):
                if run >= told:
                    break
                self.assertIsNotNone(fault_of(web, run), (web, run))
            self.assertEqual(samples.all_faults(web, told), [], web)

    def test_none_of_a_wheel(self):
        for web in samples.all_numbered(samples.WHEEL):
            with self.subTest(web=web):
                self.assertIs(first_good(web), None)
        self.assertEqual(good_many(samples.WHEEL), 0)

    def test_a_wheel_with_one_tie_more_or_fewer_has_one(self):
        for pair in samples.all_pairs(6):
            web = (6, tuple(sorted(set(samples.WHEEL[1]) ^ {pair})))
            with self.subTest(web=web):
                self.assertEqual(samples.all_faults(web, first_good(web)), [])

    def test_how_many_by_hand(self):
        for web, many in (
                ((1, ()), 1), ((6, ()), 1), ((2, ((0, 1),)), 2), (TRIANGLE, 6), (PATH, 8), (samples.path(6), 32),
                ((6, tuple((0, at) for at in range(1, 6))), 32), (ALL_FOUR, 24), (ALL_FIVE, 120),
                (RING, 16 - 2 - 8), (RING_OF_FIVE, 32 - 2 - 10), (samples.ring(6), 64 - 2 - 12), (KITE, 12)):
            with self.subTest(web=web):
                self.assertEqual(good_many(web), many)
                self.assertIs(type(good_many(web)), int)

    def test_ten_ties_are_taken(self):
        pairs = samples.all_pairs(6)
        self.assertEqual(good_many((6, pairs[:5] + pairs[9:14])), len(samples.all_good((6, pairs[:5] + pairs[9:14]))))

    def test_too_many(self):
        pairs = samples.all_pairs(6)
        for most in range(11, 16):
            for ties in (pairs[:most], pairs[-most:]):
                with self.subTest(ties=ties):
                    with self.assertRaises(TooMany):
                        good_many((6, ties))
                    self.assertIs(is_run(first_good((6, ties)), (6, ties)), True)


class TurnedAllAbout(unittest.TestCase):
    """[34]: a run turned all about is as good."""

    def test_all_webs_of_four_places(self):
        for web in samples.all_webs(4):
            for run in samples.all_runs(web):
                about = tuple(-mark for mark in run)
                self.assertIs(fault_of(web, about) is None, fault_of(web, run) is None, (web, run))

    def test_webs_of_six_places(self):
        for web in (PRISM, samples.ring(6)):
            for run in list(samples.all_runs(web))[:256]:
                about = tuple(-mark for mark in run)
                self.assertIs(fault_of(web, about) is None, fault_of(web, run) is None, (web, run))


class Refused(unittest.TestCase):
    """[5]: NoWeb ahead of all else, then NoRun, TooMany behind."""

    def test_no_web_goes_first(self):
        for web in samples.NO_WEBS:
            with self.subTest(web=web):
                for ask in (first_good, good_many):
                    self.assertRaises(NoWeb, ask, web)
                for thing in ((), (1, 1), (1,), None, [], ("round", (0, 1, 2)), "x"):
                    self.assertRaises(NoWeb, is_run, thing, web)
                    self.assertRaises(NoWeb, fault_of, web, thing)
                    self.assertRaises(NoWeb, is_fault, thing, web, (1, 1))
                    self.assertRaises(NoWeb, is_fault, thing, web, thing)

    def test_no_web_of_many_ties(self):
        pairs = samples.all_pairs(6)
        for web in ((5, pairs[:11]), (6, pairs[::-1]), (6, pairs[:11] + pairs[:1]), (6, list(pairs))):
            with self.subTest(web=web):
                self.assertRaises(NoWeb, good_many, web)
                self.assertRaises(NoWeb, first_good, web)

    def test_no_run(self):
        for thing in NO_RUNS_OF_PATH + samples.ODD_THINGS:
            with self.subTest(thing=thing):
                self.assertRaises(NoRun, fault_of, PATH, thing)
                for fault in (("round", (0, 1, 2)), ("short", (0, 1, 2, 3)), None, (), "x", thing):
                    self.assertRaises(NoRun, is_fault, fault, PATH, thing)

    def test_no_run_of_a_web_without_ties(self):
        for thing in ((1,), (-1,), [], None, "", (0,), (True,)):
            with self.subTest(thing=thing):
                self.assertRaises(NoRun, fault_of, (3, ()), thing)
                self.assertRaises(NoRun, is_fault, None, (3, ()), thing)


class NothingIsChanged(unittest.TestCase):
    """[4]: what is handed in stays as it is; the same asked again has the same answer."""

    def test_what_is_told(self):
        for web, run, faults in FAULTS:
            with self.subTest(web=web, run=run):
                samples.ask_twice(self, is_run, run, web)
                samples.ask_twice(self, fault_of, web, run)
                samples.ask_twice(self, first_good, web)
                samples.ask_twice(self, good_many, web)
                for thing in tuple(faults) + NO_FAULTS:
                    samples.ask_twice(self, is_run, thing, web)
                    samples.ask_twice(self, is_fault, thing, web, run)

    def test_lists_and_dicts(self):
        for thing in ([1, 1, 1], ["round", [0, 1, 2]], ("round", [0, 1, 2]), {"round": [0, 1, 2]}, ([1], [1], [1])):
            with self.subTest(thing=thing):
                samples.ask_twice(self, is_run, thing, PATH)
                samples.ask_twice(self, is_fault, thing, PATH, (1, 1, 1))

    def test_what_is_refused(self):
        for thing in ([1, 1, 1], ([1], 1, 1), {0: [1]}):
            kept = copy.deepcopy(thing)
            for _ in range(2):
                with self.subTest(thing=thing):
                    self.assertRaises(NoRun, fault_of, PATH, thing)
                    self.assertRaises(NoRun, is_fault, thing, PATH, thing)
                    self.assertRaises(NoWeb, first_good, thing)
                    self.assertRaises(NoWeb, good_many, thing)
                    self.assertEqual(thing, kept)


if __name__ == "__main__":
    unittest.main()
