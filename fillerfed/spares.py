"""What can be spared of a hall that holds.

A CHANGE is one of the tuples ("room", index), ("time", name), ("size", name, purse) and ("back", name, purse).
"""

from fillerfed.forms import is_count, is_just, is_tuple_of
from fillerfed.halls import purses_of, time_of, with_purses, with_time
from fillerfed.rooms import evidence, is_evidence, is_holding, least_room, with_rooms


def changes_at(machine):
    """The list of all CHANGES at a MACHINE that is not the FILLER."""
    name, _, purses = machine
    return [("time", name)] + [(kind, name, index) for index in range(len(purses)) for kind in ("size", "back")]


def most_times(hall, change):
    """How often a CHANGE can be made, None if as often as one likes."""
    if change[0] != "room":
        return None
    belt = hall[1][change[1]]
    return belt[2] - least_room(belt)


def changes_of(hall):
    """The list of all CHANGES that can be made."""
    machines, belts, filler = hall
    rooms = [("room", index) for index in range(len(belts)) if most_times(hall, ("room", index)) > 0]
    return rooms + [change for machine in machines if machine[0] != filler for change in changes_at(machine)]


def with_less_room(hall, index, times):
    """The HALL with so many places less on a BELT."""
    rooms = [belt[2] for belt in hall[1]]
    rooms[index] = rooms[index] - times
    return with_rooms(hall, tuple(rooms))


def with_more_purse(hall, name, index, size, back):
    """The HALL with so much more size and back of a PURSE."""
    purses = list(purses_of(hall, name))
    purses[index] = (purses[index][0] + size, purses[index][1] + back)
    return with_purses(hall, name, tuple(purses))


def changed(hall, change, times):
    """The HALL with a CHANGE made so many times."""
    kind = change[0]
    if kind == "room":
        return with_less_room(hall, change[1], times)
    if kind == "time":
        return with_time(hall, change[1], time_of(hall, change[1]) + times)
    if kind == "size":
        return with_more_purse(hall, change[1], change[2], times, 0)
    return with_more_purse(hall, change[1], change[2], 0, times)


def spares(hall):
    """The list of the CHANGES with each of which alone a HALL that HOLDS still does."""
    return [change for change, told in spare_paper(hall) if is_holding(told)]


def is_tight(hall):
    """Whether there are none."""
    return spares(hall) == []


def spare_paper(hall):
    """The tuple of couples of all CHANGES and EVIDENCE of the HALL with each of them."""
    return tuple([(change, evidence(changed(hall, change, 1))) for change in changes_of(hall)])


def is_spare_paper(hall, thing):
    """Whether a value is such a tuple."""
    changes = changes_of(hall)
    if not is_tuple_of(thing, len(changes)) or not all([is_tuple_of(couple, 2) for couple in thing]):
        return False
    if not all([is_just(couple[0], change) for couple, change in zip(thing, changes)]):
        return False
    return all([is_evidence(changed(hall, change, 1), told) for change, told in thing])


def often(hall, change, most):
    """How often, up to most, a CHANGE can be made so that the HALL HOLDS, None if it does not HOLD."""
    paper = often_paper(hall, change, most)
    return None if paper is None else paper[0]


def times_up_to(hall, change, most):
    """How often, up to most, a CHANGE can be made."""
    times = most_times(hall, change)
    return most if times is None else min(most, times)


def often_paper(hall, change, most):
    """The tuple (times, table, evidence): how often, and what shows that so often and not more; None if often is."""
    kind, table = evidence(hall)
    if kind != "holds":
        return None
    last = times_up_to(hall, change, most)
    for times in range(last):
        told = evidence(changed(hall, change, times + 1))
        if not is_holding(told):
            return (times, table, told)
        table = told[1]
    return (last, table, None)


def is_often_paper(hall, change, most, thing):
    """Whether a value is such a tuple."""
    last = times_up_to(hall, change, most)
    if not is_tuple_of(thing, 3) or not is_count(thing[0]) or thing[0] > last:
        return False
    times, table, told = thing
    if not is_evidence(changed(hall, change, times), ("holds", table)):
        return False
    if times == last:
        return told is None
    return is_evidence(changed(hall, change, times + 1), told) and not is_holding(told)
