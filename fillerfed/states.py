"""Where a walk is, and what the purses hold there.

A STATE is a tuple (name, contents): the name of a machine, and for each machine, in order, a tuple of what each of its
PURSES HOLDS.
"""

from fillerfed.arcs import arcs_from, does_end, end_of, growth_of
from fillerfed.errors import Dead, TooMany
from fillerfed.forms import is_integer, is_name, is_tuple_of
from fillerfed.halls import names_of
from fillerfed.purses import grown
from fillerfed.rings import dead_ring

MOST_STATES = 20000


def is_content(purses, thing):
    """Whether a value is a tuple with an integer from 0 to its size for each of the PURSES."""
    if not is_tuple_of(thing, len(purses)):
        return False
    return all([is_integer(content) and 0 <= content <= purse[0] for purse, content in zip(purses, thing)])


def is_state(hall, thing):
    """Whether a value is a STATE of a HALL."""
    if not is_tuple_of(thing, 2):
        return False
    name, contents = thing
    if not is_name(name) or name not in names_of(hall) or not is_tuple_of(contents, len(hall[0])):
        return False
    return all([is_content(purses, row) for (_, _, purses), row in zip(hall[0], contents)])


def full_state(hall, name):
    """The STATE of a machine with all PURSES full."""
    return (name, tuple([tuple([size for size, _ in purses]) for _, _, purses in hall[0]]))


def behind(hall, state, arc):
    """The tuple (state, ticks): the STATE behind an ARC from this one, and what this takes."""
    name, contents = state
    growth = growth_of(hall, arc)
    ticks = 0
    later = []
    for (one, time, purses), row in zip(hall[0], contents):
        gives = one == name and does_end(arc)
        if gives:
            ticks = time + sum(row)
        later.append(tuple([grown(purse, 0 if gives else content, growth) for purse, content in zip(purses, row)]))
    return ((end_of(hall, arc), tuple(later)), ticks)


def behind_all(hall, state, arcs):
    """The tuple (state, ticks, growth): the STATE behind ARCS in a row, what they take, and their growth."""
    ticks = 0
    growth = 0
    for arc in arcs:
        state, more = behind(hall, state, arc)
        ticks += more
        growth += growth_of(hall, arc)
    return (state, ticks, growth)


def web_of(hall, last, most):
    """For each STATE to which one comes from full ones the list of tuples (arc, state, ticks) of what is behind it.

    One does not come to the machine `last` by ARCS; to all machines, if it is None. There are at most so many STATES.
    """
    ring = dead_ring(hall)
    if ring is not None:
        raise Dead(ring)
    steps = {name: arcs_from(hall, name) for name in names_of(hall)}
    pile = [full_state(hall, name) for name in steps]
    web = {state: [] for state in pile}
    while pile:
        state = pile.pop()
        for arc in steps[state[0]]:
            later, ticks = behind(hall, state, arc)
            web[state].append((arc, later, ticks))
            if later[0] != last and later not in web:
                web[later] = []
                pile.append(later)
        if len(web) > most:
            raise TooMany(most)
    return web


def walk_web(hall):
    """The web_of the STATES to which one comes on WALKS."""
    return web_of(hall, hall[2], MOST_STATES)


def states_of(hall):
    """The ascending tuple of all STATES to which one comes from full ones by ARCS that do not lead to the FILLER."""
    return tuple(sorted(walk_web(hall)))
