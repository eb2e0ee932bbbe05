"""Things that several tests hand in, and plain second ways to tell what the program tells."""

import copy
from itertools import combinations, permutations, product
from random import Random

LETTERS = "abcdef"

# Things that are no web, no word, no place, no number and no web's text, of many kinds.
ODD_THINGS = (
    None, True, False, -1, 7, 10 ** 29, -10 ** 29, "", " ", "x", "A", "4 0-1 1-2 ", [], {}, (), [0], (0,), [[]],
    ((),), (((),),), {"a": 1}, {0: (1, ())}, {1: []}, ["a", ("b", {"c": [None, True]})], (None,), ("a", "b"),
    [1, ()], {"at": (4, ((0, 1),))},
)

# What is no web.
NO_WEBS = ODD_THINGS + (
    "1", "abc", "4 0-1 1-2", 1, 4, (4,), ((), 4), (4, (), ()), (4, ((0, 1),), 0), ((4, ()),), [4, ((0, 1),)],
    # the number of places
    (0, ()), (7, ()), (-1, ()), (10 ** 29, ()), (True, ()), (False, ()), (None, ()), ("4", ()), ((4,), ()), ([4], ()),
    ({}, ()),
    # what the ties stand in
    (4, None), (4, []), (4, {}), (4, ""), (4, 0), (4, True), (4, [(0, 1)]), (4, {(0, 1): 1}), (4, "0-1"), (4, (0, 1)),
    (4, {0: 1}),
    # a tie
    (4, ([0, 1],)), (4, ((0, 1), [1, 2])), (4, ((0, 1, 2),)), (4, ((0,),)), (4, ((),)), (4, (0,)), (4, (None,)),
    (4, ("01",)), (4, ("0-1",)), (4, ({0: 1, 1: 2},)), (4, (((0, 1),),)), (4, ((0, 1), ())), (4, (True,)),
    # the places of a tie
    (4, ((1, 0),)), (4, ((1, 1),)), (4, ((0, 0),)), (4, ((0, 4),)), (4, ((4, 5),)), (4, ((-1, 0),)), (4, ((-2, -1),)),
    (1, ((0, 1),)), (2, ((0, 1), (0, 2))), (6, ((0, 6),)), (4, ((0, 10 ** 29),)), (4, ((False, 1),)), (4, ((0, True),)),
    (4, ((True, 2),)), (4, ((False, True),)), (4, (("0", "1"),)), (4, (("a", "b"),)), (4, ((0, None),)),
    (4, ((None, 1),)), (4, ((0, (1,)),)), (4, (((0,), 1),)), (4, ((0, [1]),)), (4, ((0, "1"),)), (4, ((0, {}),)),
    # their order
    (4, ((0, 1), (0, 1))), (4, ((1, 2), (0, 1))), (4, ((0, 2), (0, 1))), (4, ((0, 1), (1, 2), (0, 3))),
    (4, ((0, 1), (1, 2), (1, 2))), (4, ((0, 1), (1, 0))), (4, ((0, 3), (1, 2), (2, 3), (1, 3))),
)

# What is no place of any web.
NO_PLACES = (True, False, None, -1, -2, 6, 10 ** 29, -10 ** 29, "", "0", "a", [], [0], (), (0,), {}, {0: 0}, ((0,),))

# What is no number of places.
NO_MANY = (0, -1, 7, 10 ** 29, -10 ** 29, True, False, None, "", "1", "a", [], [1], (), (1,), {}, {1: 1}, (1, ()))

# What is no word of three places.
NO_WORDS_OF_THREE = (
    "", "a", "ab", "ac", "bc", "aabb", "abd", "abcd", "abcdef", "abcx", "xabc", "Abc", "abC", "ABC", "abc ", " abc",
    "a bc", "abc\n", "a\tbc", "ab-c", "abc0", "012", "abc`", None, True, False, 0, 3, -1, 10 ** 29, [], ["a", "b", "c"],
    ("a", "b", "c"), ("abc",), ["abc"], {}, {"a": 1, "b": 2, "c": 3}, {"abc": 1}, (0, 1, 2), (3, ()), (("abc",),),
)

# What is no number whatever the numbers are that are due.
NO_NUMBERS = (-1, -2, 10 ** 29, -10 ** 29, True, False, None, "", "0", "1", "a", [], [1], (), (0,), (1,), {}, {1: 1})

# What is no number from 1 to 2.
NO_ONE_OR_TWO = NO_NUMBERS[:-1] + (0, 3, 4, "2", [2], (2,), {2: 2}, {1: 1})

# What is no rising tuple of one or more of four places.
NO_SOMES_OF_FOUR = (
    (), (1, 0), (3, 1), (0, 2, 1), (0, 0), (2, 2), (0, 1, 1), (0, 1, 3, 3), (4,), (0, 4), (3, 4), (5,), (0, 1, 2, 3, 4),
    (-1,), (-1, 0), (-2, -1), (10 ** 29,), (0, 10 ** 29), (True,), (False,), (False, 1), (0, True), (False, True),
    (0, True, 2), (None,), (0, None), ("0",), ("a",), ("a", "b"), (0, "1"), ((0,),), ((0, 1),), (0, (1,)), ([0],),
    (0, [1]), ({},), [], [0], [0, 1], [0, 1, 2, 3], "", "0", "a", "ab", "01", None, True, False, 0, 1, -1, 10 ** 29,
    {}, {0: 1}, {0: 0, 1: 1}, {"a": 1},
)

# A web of six places that no word shows: one place is tied to the five others, and these in a ring.
WHEEL = (6, ((0, 1), (0, 4), (0, 5), (1, 2), (1, 5), (2, 3), (2, 5), (3, 4), (3, 5), (4, 5)))


def ring(many):
    """The web of so many places, three or more, that are tied in a ring."""
    return (many, tuple(sorted([(at, at + 1) for at in range(many - 1)] + [(0, many - 1)])))


def path(many):
    return (many, tuple((at, at + 1) for at in range(many - 1)))


def numbered(web, order):
    """The web with place `at` numbered `order[at]` from then on."""
    many, ties = web
    return (many, tuple(sorted(tuple(sorted((order[a], order[b]))) for a, b in ties)))


def all_numbered(web):
    return sorted({numbered(web, order) for order in permutations(range(web[0]))})


def within(web, some):
    """The web of some places, by their order."""
    order = sorted(some)
    return (len(order), tuple((order.index(a), order.index(b)) for a, b in web[1] if a in order and b in order))


def all_runs(web):
    return product((-1, 1), repeat=len(web[1]))


def all_faults(web, run):
    """All faults of the run, by going over all rows of unlike places."""
    many, ties = web
    leads = {tie if mark == 1 else tie[::-1] for tie, mark in zip(ties, run)}
    found = []
    for size in range(3, many + 1):
        for row in permutations(range(many), size):
            if all(pair in leads for pair in zip(row, row[1:])):
                if (row[-1], row[0]) in leads:
                    found.append(("round", row))
                if size > 3 and (row[0], row[-1]) in leads and set(combinations(sorted(row), 2)) - set(ties):
                    found.append(("short", row))
    return found


def all_good(web):
    """All good runs, as tuples are ordered."""
    return [run for run in all_runs(web) if not all_faults(web, run)]


def all_pairs(many):
    return tuple(combinations(range(many), 2))


def all_webs(many):
    pairs = all_pairs(many)
    for marks in product((False, True), repeat=len(pairs)):
        yield (many, tuple(pair for pair, mark in zip(pairs, marks) if mark))


def some_webs(many):
    """Webs of so many places: without ties, of one tie, of all but one, of all, and of every third one."""
    pairs = all_pairs(many)
    webs = [(), pairs, pairs[::3], pairs[1::2]]
    webs += [(pair,) for pair in pairs]
    webs += [tuple(pair for pair in pairs if pair != left) for left in pairs]
    return [(many, ties) for ties in webs]


def all_words(many, length):
    letters = LETTERS[:many]
    for signs in product(letters, repeat=length):
        if len(set(signs)) == many:
            yield "".join(signs)


def go_by_turns(word, one, other):
    """Whether two letters take turns: they alone are a stretch of `xyxy..` or of `yxyx..`."""
    left = "".join(sign for sign in word if sign in one + other)
    return left in (one + other) * len(left) or left in (other + one) * len(left)


def shown(many, word):
    return (many, tuple((a, b) for a, b in all_pairs(many) if go_by_turns(word, LETTERS[a], LETTERS[b])))


def ask_twice(test, ask, *things):
    """Check that the same answer comes twice, and that the things stay as they are."""
    kept = copy.deepcopy(things)
    first = ask(*things)
    test.assertEqual(things, kept)
    test.assertEqual(ask(*things), first)
    test.assertEqual(things, kept)


def each_so_often(many, often):
    """All words with each letter of so many places just so often, as texts are ordered."""
    return arranged(LETTERS[:many] * often)


def arranged(letters):
    """All texts of these letters, as texts are ordered."""
    if not letters:
        return [""]
    return [letter + text for letter in sorted(set(letters)) for text in arranged(letters.replace(letter, "", 1))]


def mixed_words(many, often, seed=1):
    """Some words with each letter of so many places so often, mixed up, the same ones for the same seed."""
    mixer = Random(seed)
    for _ in range(40):
        signs = list(LETTERS[:many] * often)
        mixer.shuffle(signs)
        yield "".join(signs)


def rough_words(many, most=12, seed=1):
    """Some words of so many places, of many to most letters, not all of them even, the same ones for the same seed."""
    mixer = Random(seed)
    for at in range(40):
        signs = list(LETTERS[:many]) + [mixer.choice(LETTERS[:many]) for _ in range(at % (most - many + 1))]
        mixer.shuffle(signs)
        yield "".join(signs)


def near(web, place):
    """The set of the places that are tied to the place."""
    return {a + b - place for a, b in web[1] if place in (a, b)}
