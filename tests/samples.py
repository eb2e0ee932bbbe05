"""Things that several tests hand in, and plain second ways to tell what the program tells."""

from itertools import combinations, product

LETTERS = "abcdef"

# Things that are no web, no word, no place, no number and no web's text, of many kinds.
ODD_THINGS = (
    None, True, False, -1, 7, 10 ** 29, -10 ** 29, "", " ", "x", "A", "4 0-1 1-2 ", [], {}, (), [0], (0,), [[]],
    ((),), (((),),), {"a": 1}, {0: (1, ())}, {1: []}, ["a", ("b", {"c": [None, True]})], (None,), ("a", "b"),
    [1, ()], {"at": (4, ((0, 1),))},
)

# What is no web.
NO_WEBS = ODD_THINGS + (
    "1", "abc", "4 0-1 1-2", 1, 4, (4,), ((), 4), (4, (), ()), (4, ((0, 1),), 0), ((4, ()),), [4, ((0, 1),)],
    # the number of places
    (0, ()), (7, ()), (-1, ()), (10 ** 29, ()), (True, ()), (False, ()), (None, ()), ("4", ()), ((4,), ()), ([4], ()),
    ({}, ()),
    # what the ties stand in
    (4, None), (4, []), (4, {}), (4, ""), (4, 0), (4, True), (4, [(0, 1)]), (4, {(0, 1): 1}), (4, "0-1"), (4, (0, 1)),
    (4, {0: 1}),
    # a tie
    (4, ([0, 1],)), (4, ((0, 1), [1, 2])), (4, ((0, 1, 2),)), (4, ((0,),)), (4, ((),)), (4, (0,)), (4, (None,)),
    (4, ("01",)), (4, ("0-1",)), (4, ({0: 1, 1: 2},)), (4, (((0, 1),),)), (4, ((0, 1), ())), (4, (True,)),
    # the places of a tie
    (4, ((1, 0),)), (4, ((1, 1),)), (4, ((0, 0),)), (4, ((0, 4),)), (4, ((4, 5),)), (4, ((-1, 0),)), (4, ((-2, -1),)),
    (1, ((0, 1),)), (2, ((0, 1), (0, 2))), (6, ((0, 6),)), (4, ((0, 10 ** 29),)), (4, ((False, 1),)), (4, ((0, True),)),
    (4, ((True, 2),)), (4, ((False, True),)), (4, (("0", "1"),)), (4, (("a", "b"),)), (4, ((0, None),)),
    (4, ((None, 1),)), (4, ((0, (1,)),)), (4, (((0,), 1),)), (4, ((0, [1]),)), (4, ((0, "1"),)), (4, ((0, {}),)),
    # their order
    (4, ((0, 1), (0, 1))), (4, ((1, 2), (0, 1))), (4, ((0, 2), (0, 1))), (4, ((0, 1), (1, 2), (0, 3))),
    (4, ((0, 1), (1, 2), (1, 2))), (4, ((0, 1), (1, 0))), (4, ((0, 3), (1, 2), (2, 3), (1, 3))),
)

# What is no place of any web.
NO_PLACES = (True, False, None, -1, -2, 6, 10 ** 29, -10 ** 29, "", "0", "a", [], [0], (), (0,), {}, {0: 0}, ((0,),))

# What is no number of places.
NO_MANY = (0, -1, 7, 10 ** 29, -10 ** 29, True, False, None, "", "1", "a", [], [1], (), (1,), {}, {1: 1}, (1, ()))


def all_pairs(many):
    return tuple(combinations(range(many), 2))


def all_webs(many):
    pairs = all_pairs(many)
    for marks in product((False, True), repeat=len(pairs)):
        yield (many, tuple(pair for pair, mark in zip(pairs, marks) if mark))


def some_webs(many):
    """Webs of so many places: without ties, of one tie, of all but one, of all, and of every third one."""
    pairs = all_pairs(many)
    webs = [(), pairs, pairs[::3], pairs[1::2]]
    webs += [(pair,) for pair in pairs]
    webs += [tuple(pair for pair in pairs if pair != left) for left in pairs]
    return [(many, ties) for ties in webs]


def all_words(many, length):
    letters = LETTERS[:many]
    for signs in product(letters, repeat=length):
        if len(set(signs)) == many:
            yield "".join(signs)


def go_by_turns(word, one, other):
    """Whether two letters take turns: they alone are a stretch of `xyxy..` or of `yxyx..`."""
    left = "".join(sign for sign in word if sign in one + other)
    return left in (one + other) * len(left) or left in (other + one) * len(left)


def shown(many, word):
    return (many, tuple((a, b) for a, b in all_pairs(many) if go_by_turns(word, LETTERS[a], LETTERS[b])))
