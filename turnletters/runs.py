"""Runs, which give each tie of a web a direction, and the faults that they have."""

from turnletters.errors import NoRun, TooMany
from turnletters.webs import check_web, is_place, is_whole, pairs_of

MOST_TIES_COUNTED = 10


def is_direction(thing):
    """Tell whether the thing is the direction of a tie."""
    return is_whole(thing) and thing in (-1, 1)


def is_run(thing, web):
    """Tell whether the thing is a run of the web."""
    check_web(web)
    if not isinstance(thing, tuple) or len(thing) != len(web[1]):
        return False
    return all(is_direction(mark) for mark in thing)


def check_run(web, thing):
    """Refuse what is no web, then what is no run of it."""
    if not is_run(thing, web):
        raise NoRun("not a run of the web")


def ways_of(web, run):
    """Tell, place by place, the places that each leads to by a run.

    By one only begun, or with 0 for some ties, the ties without a direction lead nowhere.
    """
    many, ties = web
    ways = [[] for _ in range(many)]
    for (one, other), mark in zip(ties, run):
        if mark == 1:
            ways[one].append(other)
        elif mark == -1:
            ways[other].append(one)
    return ways


def is_path(thing, ways):
    """Tell whether the thing is a tuple of three or more unlike places each of which leads to the next one."""
    if not isinstance(thing, tuple) or len(thing) < 3:
        return False
    if not all(is_place(place, len(ways)) for place in thing) or len(set(thing)) != len(thing):
        return False
    return all(after in ways[place] for place, after in zip(thing, thing[1:]))


def has_gap(places, web):
    """Tell whether some two of the places aren't tied."""
    many, ties = web
    gaps = [pair for pair in pairs_of(many) if pair not in ties]
    return any(one in places and other in places for one, other in gaps)


def fault_by(path, web, ways):
    """Tell the fault whose places are the path; None where it is none."""
    # How many the places are needs no look: two have one tie alone, and among three of a short there is no gap.
    first, last = path[0], path[-1]
    if first in ways[last]:
        return "round", path
    if last in ways[first] and has_gap(path, web):
        return "short", path
    return None


def is_fault_by(thing, web, ways):
    """Tell whether the thing is a fault all ties of which lead as told."""
    if not isinstance(thing, tuple) or len(thing) != 2:
        return False
    path = thing[1]
    return is_path(path, ways) and fault_by(path, web, ways) == thing


def is_fault(thing, web, run):
    """Tell whether the thing is a fault of the run."""
    check_run(web, run)
    return is_fault_by(thing, web, ways_of(web, run))


def fault_behind(path, web, ways):
    """Tell some fault whose places begin with the path; None where there is none."""
    fault = fault_by(path, web, ways)
    if fault is not None:
        return fault
    for place in ways[path[-1]]:
        if place not in path:
            fault = fault_behind(path + (place,), web, ways)
            if fault is not None:
                return fault
    return None


def some_fault(web, run):
    """Tell some fault of a run, or of one only begun; None where there is none."""
    ways = ways_of(web, run)
    for place in range(web[0]):
        fault = fault_behind((place,), web, ways)
        if fault is not None:
            return fault
    return None


def fault_of(web, run):
    """Tell some fault of the run, None where it is good."""
    check_run(web, run)
    return some_fault(web, run)


def is_good_so_far(web, begun):
    """Tell whether a run, perhaps only begun, has no fault."""
    return some_fault(web, begun) is None


def first_run(web, begun, is_so):
    """Tell the first run that begins as told and is so, as tuples are ordered, None where there is none.

    What is not so as far as it is begun must not be so whatever directions come behind.
    """
    if not is_so(web, begun):
        return None
    if len(begun) == len(web[1]):
        return begun
    for mark in (-1, 1):
        run = first_run(web, begun + (mark,), is_so)
        if run is not None:
            return run
    return None


def first_good(web):
    """Tell the first good run of the web, as tuples are ordered, None where there is none."""
    check_web(web)
    # A fault stays one whatever directions come behind.
    return first_run(web, (), is_good_so_far)


def many_behind(web, begun):
    """Tell how many good runs begin as told."""
    if not is_good_so_far(web, begun):
        return 0
    if len(begun) == len(web[1]):
        return 1
    return many_behind(web, begun + (-1,)) + many_behind(web, begun + (1,))


def good_many(web):
    """Tell how many good runs the web has."""
    check_web(web)
    if len(web[1]) > MOST_TIES_COUNTED:
        raise TooMany("more ties than are taken")
    return many_behind(web, ())
