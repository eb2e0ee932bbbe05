import copy
import unittest
from functools import cache
from itertools import permutations

import samples
from turnletters.barred import bar_for, barring_place, is_bar
from turnletters.errors import NoWeb
from turnletters.orders import first_passing
from turnletters.runs import first_good
from turnletters.search import word_for

WHEEL = samples.WHEEL
TIES = WHEEL[1]

# The wheel with its places numbered otherwise: the place that is tied to all others is the first, or the third one.
OTHER_WHEELS = [samples.numbered(WHEEL, (1, 2, 3, 4, 5, 0)), samples.numbered(WHEEL, (0, 4, 1, 5, 3, 2))]


def leads_of(fixed):
    """The pairs that the ties with fixed directions lead from and to."""
    return {tie if mark == 1 else tie[::-1] for tie, mark in fixed.items()}


def faults_behind(web, fixed, rows):
    """The faults among the rows of places, all ties of which have fixed directions."""
    leads = leads_of(fixed)
    for row in rows:
        if all(pair in leads for pair in zip(row, row[1:])):
            if (row[-1], row[0]) in leads:
                yield ("round", row)
            if (row[0], row[-1]) in leads and set(samples.combinations(sorted(row), 2)) - set(web[1]):
                yield ("short", row)


def holds(thing, web, fixed):
    """Whether the thing, made as a bar is, is one behind the fixed directions: a second way to tell."""
    if thing[0] == "fault":
        return thing[1] in faults_behind(web, fixed, [thing[1][1]])
    _, number, less, more = thing
    tie = web[1][number]
    if tie in fixed:
        return False
    return holds(less, web, {**fixed, tie: -1}) and holds(more, web, {**fixed, tie: 1})


def made_bar(web, order, fixed, rows):
    """A bar of the web, going over its ties in the order told."""
    for fault in faults_behind(web, fixed, rows):
        return ("fault", fault)
    tie = web[1][order[0]]
    parts = [made_bar(web, order[1:], {**fixed, tie: mark}, rows) for mark in (-1, 1)]
    return ("tie", order[0], *parts)


@cache
def wheel_bars():
    """Bars of the wheel by several orders of its ties."""
    rows = [row for size in range(3, 7) for row in permutations(range(6), size)]
    orders = (tuple(range(10)), tuple(range(9, -1, -1)), (5, 0, 9, 3, 7, 1, 8, 2, 6, 4))
    return [made_bar(WHEEL, order, {}, rows) for order in orders]


def parts_of(bar, ahead=()):
    """The bar and all bars within it, each with where it stands."""
    yield ahead, bar
    if bar[0] == "tie":
        for at in (2, 3):
            yield from parts_of(bar[at], ahead + (at,))


def exchanged(bar, ahead, thing):
    """The bar with the thing where told."""
    if not ahead:
        return thing
    at = ahead[0]
    return bar[:at] + (exchanged(bar[at], ahead[1:], thing),) + bar[at + 1:]


def fixed_at(bar, ahead):
    """The numbers of the ties that are fixed where told."""
    found = []
    for at in ahead:
        found.append(bar[1])
        bar = bar[at]
    return found


def off_by_one(bar):
    """Things that are nearly the bar, and none."""
    yield from (bar + (None,), bar + bar[-1:], bar[:-1], bar[1:], list(bar), [bar], (bar,), (bar, bar), bar[::-1])
    yield from (None, (), [], "", {}, True, 0, bar[0], (bar[0],), ("",) + bar[1:], (None,) + bar[1:])
    yield from ((bar[0].upper(),) + bar[1:], ([bar[0]],) + bar[1:], {bar[0]: bar[1:]}, (bar[0], bar[1:]))
    if bar[0] == "fault":
        name, row = bar[1]
        for thing in ((name, list(row)), [name, row], (name,), (name, row, row), (name, row[:2]), (name, row + row[:1]),
                      ({"round": "short", "short": "round"}[name], row), (name, row[::-1]), (name, row[:-1] + (6,)),
                      (name, (True,) + row[1:]), None, (), [], name, row, 0, bar, {name: row}):
            yield ("fault", thing)
        yield from (("tie", bar[1]), ("tie",) + bar[1], bar[1], ("fault",) + bar[1])
    else:
        _, number, less, more = bar
        for thing in (-1, len(TIES), 10 ** 29, -10 ** 29, True, False, None, str(number), (number,), [number],
                      TIES[number]):
            yield ("tie", thing, less, more)
        yield from (("tie", number, less), ("tie", number, [less], more), ("tie", number, less, list(more)))
        yield from (("tie", number, bar, more), ("tie", number, less, bar), ("tie", number, None, more))
        yield from (("tie", number, less, None), ("tie", number, (), ()), ("tie", less, number, more))
        yield from (("tie", number, (less, more)), ("fault", number, less, more), ("tie", number, less, more, more))


class IsBar(unittest.TestCase):
    """[91]: what is a bar of a web, and what is none."""

    def test_bars_by_several_orders_of_the_ties(self):
        for bar in wheel_bars():
            self.assertIs(holds(bar, WHEEL, {}), True)
            self.assertIs(is_bar(bar, WHEEL), True)

    def test_bars_with_ties_that_are_not_needed(self):
        # All its faults stand behind any direction of a tie that goes ahead.
        for bar in wheel_bars():
            used = {part[1] for _, part in parts_of(bar) if part[0] == "tie"}
            self.assertEqual(used, set(range(10)))
            for ahead, part in list(parts_of(bar))[::9]:
                for number in range(10):
                    thing = exchanged(bar, ahead, ("tie", number, part, part))
                    wanted = holds(thing, WHEEL, {})
                    self.assertIs(is_bar(thing, WHEEL), wanted, (ahead, number))
                    if number in fixed_at(bar, ahead):
                        self.assertIs(wanted, False)

    def test_a_fault_whose_ties_have_no_fixed_directions(self):
        for bar in wheel_bars():
            faults = {part[1] for _, part in parts_of(bar) if part[0] == "fault"}
            for fault in faults:
                self.assertIs(is_bar(("fault", fault), WHEEL), False, fault)
            for ahead, part in parts_of(bar):
                if part[0] == "fault" and len(ahead) > 1:
                    # One direction fewer is fixed.
                    thing = exchanged(bar, ahead[:-1], part)
                    self.assertIs(is_bar(thing, WHEEL), holds(thing, WHEEL, {}), ahead)

    def test_a_tie_whose_direction_is_fixed(self):
        for bar in wheel_bars():
            for ahead, part in list(parts_of(bar))[::3]:
                if part[0] == "tie":
                    for number in fixed_at(bar, ahead):
                        thing = exchanged(bar, ahead, ("tie", number, part[2], part[3]))
                        self.assertIs(is_bar(thing, WHEEL), False, (ahead, number))
                        # Even where all behind it would hold.
                        thing = exchanged(bar, ahead, ("tie", number, part, part))
                        self.assertIs(is_bar(thing, WHEEL), False, (ahead, number))

    def test_parts_exchanged(self):
        for bar in wheel_bars():
            some = 0
            for ahead, part in parts_of(bar):
                if part[0] == "tie":
                    thing = exchanged(bar, ahead, ("tie", part[1], part[3], part[2]))
                    wanted = holds(thing, WHEEL, {})
                    some += not wanted
                    self.assertIs(is_bar(thing, WHEEL), wanted, ahead)
            self.assertGreater(some, 20)
            self.assertIs(is_bar(("tie", bar[1], bar[3], bar[2]), WHEEL), False)

    def test_nearly_a_bar(self):
        for bar in wheel_bars():
            parts = list(parts_of(bar))
            for ahead, part in parts[:12] + parts[12::17]:
                for thing in off_by_one(part):
                    self.assertIs(is_bar(exchanged(bar, ahead, thing), WHEEL), False, (ahead, thing))

    def test_a_truth_is_no_number_and_no_place(self):
        for bar in wheel_bars():
            for ahead, part in parts_of(bar):
                if part[0] == "tie" and part[1] in (0, 1):
                    thing = ("tie", part[1] == 1, part[2], part[3])
                    self.assertIs(is_bar(exchanged(bar, ahead, thing), WHEEL), False, ahead)
                if part[0] == "fault":
                    name, row = part[1]
                    thing = ("fault", (name, tuple(place == 1 if place in (0, 1) else place for place in row)))
                    wanted = 0 not in row and 1 not in row
                    self.assertIs(is_bar(exchanged(bar, ahead, thing), WHEEL), wanted, ahead)

    def test_a_number_below_zero(self):
        # Counted from behind it would be of a tie.
        for bar in wheel_bars():
            for ahead, part in list(parts_of(bar))[::5]:
                if part[0] == "tie":
                    thing = ("tie", part[1] - 10, part[2], part[3])
                    self.assertIs(is_bar(exchanged(bar, ahead, thing), WHEEL), False, ahead)

    def test_of_a_web_with_a_good_run_there_are_none(self):
        webs = [(6, tuple(sorted(set(TIES) ^ {pair}))) for pair in samples.all_pairs(6)]
        webs += [(6, samples.all_pairs(6)), (6, ()), (5, samples.all_pairs(5)), samples.ring(5), samples.path(4)]
        webs += [(1, ())]
        for web in webs:
            for bar in wheel_bars():
                self.assertIs(is_bar(bar, web), False, web)
            for fault in (("round", (0, 1, 5)), ("short", (0, 1, 2, 3)), ("round", (0, 1, 2))):
                self.assertIs(is_bar(("fault", fault), web), False, web)
                self.assertIs(is_bar(("tie", 0, ("fault", fault), ("fault", fault)), web), False, web)

    def test_of_another_wheel(self):
        for web in OTHER_WHEELS:
            for bar in wheel_bars():
                self.assertIs(is_bar(bar, web), False, web)

    def test_things_of_other_kinds(self):
        for thing in samples.ODD_THINGS + ("fault", "tie", ("fault",), ("tie",), ("fault", None), ("tie", 0),
                                           ("tie", 0, (), ()), ("tie", 0, None, None), ("fault", ()), ("fault", []),
                                           ("fault", ("round", ())), ("fault", ("round", None)), (("tie",), 0, 0, 0),
                                           ("tie", [], [], []), ({}, {}), ([], [], [], []), (None,) * 4, ("fault", {})):
            for web in (WHEEL, (1, ()), (6, ()), samples.path(3), (6, samples.all_pairs(6))):
                with self.subTest(thing=thing, web=web):
                    self.assertIs(is_bar(thing, web), False)


class BarFor(unittest.TestCase):
    """[91], [93]: some bar of a web, None just where there is a good run."""

    def check(self, web):
        bar = bar_for(web)
        self.assertIs(bar is None, first_good(web) is not None, web)
        self.assertIs(bar is None, word_for(web) is not None, web)
        if bar is not None:
            self.assertIs(is_bar(bar, web), True, web)
            self.assertIs(holds(bar, web, {}), True, web)
        return bar

    def test_all_wheels(self):
        wheels = samples.all_numbered(WHEEL)
        self.assertEqual(len(wheels), 72)
        for web in wheels:
            self.assertIsNotNone(self.check(web), web)

    def test_a_wheel_with_one_tie_more_or_fewer(self):
        for pair in samples.all_pairs(6):
            self.assertIsNone(self.check((6, tuple(sorted(set(TIES) ^ {pair})))))

    def test_all_webs_of_one_to_four_places(self):
        for many in range(1, 5):
            for web in samples.all_webs(many):
                self.assertIs(self.check(web), None, web)

    def test_webs_of_five_and_six_places(self):
        for web in samples.some_webs(5) + list(samples.all_webs(5))[::13] + samples.some_webs(6):
            self.check(web)
        for web in list(samples.all_webs(6))[::151]:
            self.check(web)

    def test_its_kinds(self):
        for web in [WHEEL] + OTHER_WHEELS:
            for _, part in parts_of(bar_for(web)):
                self.assertIs(type(part), tuple)
                self.assertEqual(len(part), {"fault": 2, "tie": 4}[part[0]])


class BarringPlace(unittest.TestCase):
    """[92], [93]: the first place whose tied ones, alone, have no run that passes on."""

    def test_of_a_wheel_the_one_that_is_tied_to_all_others(self):
        for web in samples.all_numbered(WHEEL):
            hub = next(place for place in range(6) if len(samples.near(web, place)) == 5)
            with self.subTest(web=web):
                self.assertEqual(barring_place(web), hub)
                self.assertIs(type(barring_place(web)), int)
                self.assertIsNone(word_for(web))
                self.assertIsNotNone(bar_for(web))

    def test_none_of_webs_of_one_to_five_places(self):
        for many in range(1, 6):
            for web in samples.all_webs(many):
                self.assertIs(barring_place(web), None, web)

    def test_webs_of_six_places(self):
        webs = samples.some_webs(6) + list(samples.all_webs(6))[::37]
        webs += [(6, tuple(sorted(set(TIES) ^ {pair}))) for pair in samples.all_pairs(6)]
        for web in webs:
            barring = [place for place in range(6) if samples.near(web, place)
                       and first_passing(samples.within(web, samples.near(web, place))) is None]
            self.assertEqual(barring_place(web), barring[0] if barring else None, web)

    def test_a_place_that_is_tied_to_none(self):
        for many in range(1, 7):
            with self.subTest(many=many):
                self.assertIs(barring_place((many, ())), None)


class NothingIsChanged(unittest.TestCase):
    """[4], [5]: what is handed in stays as it is; the same asked again has the same answer; NoWeb of what is none."""

    def test_what_is_told(self):
        for web in [WHEEL, (1, ()), samples.ring(5), (6, samples.all_pairs(6))] + OTHER_WHEELS:
            with self.subTest(web=web):
                samples.ask_twice(self, bar_for, web)
                samples.ask_twice(self, barring_place, web)
                for thing in (bar_for(web), ["tie", 0, [], {}], ("fault", ["round", [0, 1, 2]]), {"fault": [1]}):
                    samples.ask_twice(self, is_bar, thing, web)

    def test_no_web(self):
        for web in samples.NO_WEBS:
            kept = copy.deepcopy(web)
            with self.subTest(web=web):
                self.assertRaises(NoWeb, bar_for, web)
                self.assertRaises(NoWeb, barring_place, web)
                for thing in (None, (), ("fault", ("round", (0, 1, 2))), "x", web):
                    self.assertRaises(NoWeb, is_bar, thing, web)
                self.assertEqual(web, kept)


if __name__ == "__main__":
    unittest.main()
