"""What bars a web from having a word: bars, by which each run has a fault, and places."""

from turnletters.changes import web_alone
from turnletters.orders import first_passing
from turnletters.runs import is_fault_by, some_fault, ways_of
from turnletters.webs import check_web, is_number, tied_to


def is_bar_behind(thing, web, marks):
    """Tell whether the thing is a bar behind the directions told for each tie, 0 where none is fixed."""
    if not isinstance(thing, tuple):
        return False
    if len(thing) == 2 and thing[0] == "fault":
        return is_fault_by(thing[1], web, ways_of(web, marks))
    if len(thing) != 4 or thing[0] != "tie":
        return False
    _, number, less, more = thing
    if not is_number(number, 0, len(marks) - 1) or marks[number] != 0:
        return False
    ahead, behind = marks[:number], marks[number + 1:]
    return is_bar_behind(less, web, ahead + (-1,) + behind) and is_bar_behind(more, web, ahead + (1,) + behind)


def is_bar(thing, web):
    """Tell whether the thing is a bar of the web."""
    check_web(web)
    return is_bar_behind(thing, web, (0,) * len(web[1]))


def bar_behind(web, begun):
    """Tell some bar behind a run only begun, None where it can be led on to a good one."""
    fault = some_fault(web, begun)
    if fault is not None:
        return "fault", fault
    if len(begun) == len(web[1]):
        return None
    less = bar_behind(web, begun + (-1,))
    more = None if less is None else bar_behind(web, begun + (1,))
    return None if more is None else ("tie", len(begun), less, more)


def bar_for(web):
    """Tell some bar of the web, None where it has a good run."""
    check_web(web)
    return bar_behind(web, ())


def barring_place(web):
    """Tell the first place whose tied ones, alone, have no run that passes on, None where there is none."""
    check_web(web)
    for place in range(web[0]):
        near = tied_to(web, place)
        # No place is tied to one that stands alone, and without places there is no web.
        if near and first_passing(web_alone(web, near)) is None:
            return place
    return None
