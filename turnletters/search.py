"""Words that show a web, made of its good runs."""

from turnletters.runs import first_good, ways_of
from turnletters.webs import LETTERS, pairs_of

# The parts of the stretch of a place (below), in order, each named by how its places stand to that place: `before`
# leads to it, `after` is led to by it, `far_before` reaches it and `far_after` is reached from it by other places
# alone, and `apart` is the rest. Each part stands twice, so each letter does.
PARTS = ("far_before", "before", "apart", "far_before", "itself", "after",
         "before", "itself", "far_after", "apart", "after", "far_after")


def reached_from(ways, place):
    """Tell the places that are reached from the place, going on from each to those that it leads to."""
    found = []
    due = list(ways[place])
    while due:
        here = due.pop()
        if here not in found:
            found.append(here)
            due.extend(ways[here])
    return found


def order_of(reached):
    """Tell the places in an order in which each stands ahead of all that are reached from it."""
    # What is reached from a place reaches fewer places than it, as no round leads back.
    return [place for _, place in sorted([(-len(found), place) for place, found in enumerate(reached)])]


def part_of(other, place, ways, reached):
    """Tell in which part of a place's stretch the other place's letter stands."""
    if other == place:
        return "itself"
    if other in ways[place]:
        return "after"
    if place in ways[other]:
        return "before"
    if other in reached[place]:
        return "far_after"
    if place in reached[other]:
        return "far_before"
    return "apart"


def stretch_of(place, ways, reached):
    """Tell a word with each letter twice in which the place takes turns with just those that are tied to it.

    The letters of any two that are tied stand `xyxy`, x leading to y: a tie that the order of the parts would break
    closes a round or a short, and a good run has none. So such words may stand one behind the other.
    """
    order = order_of(reached)
    parts = [part_of(other, place, ways, reached) for other in order]
    return "".join([LETTERS[other] for part in PARTS for other, own in zip(order, parts) if own == part])


def word_for(web):
    """Tell some word that shows the web, None where there is none."""
    run = first_good(web)
    if run is None:
        return None
    many, ties = web
    ways = ways_of(web, run)
    reached = [reached_from(ways, place) for place in range(many)]
    # Two that aren't tied need one stretch that parts them, here that of the lesser one.
    parting = sorted({one for one, other in pairs_of(many) if (one, other) not in ties})
    if not parting:
        return LETTERS[:many]
    return "".join([stretch_of(place, ways, reached) for place in parting])
