"""Tables, by which no walk pays, and the search, which ends with a table or with a walk that pays.

The search numbers the STATES of states_of. ROWS have for each of them the list of tuples (arc, number, gain), one for
each ARC from it: the number of the STATE behind the ARC, None at the FILLER, and what is gained by the ARC.
"""

from fillerfed.arcs import arcs_from, growth_of, least_arcs, least_growth, start_of
from fillerfed.forms import is_integer
from fillerfed.halls import names_of, pace_of
from fillerfed.states import behind, full_state, is_state, web_of


def gain_behind(hall, state, arc):
    """The tuple (state, gain): the STATE behind an ARC from this one, and what is gained by the ARC."""
    later, ticks = behind(hall, state, arc)
    return (later, ticks - pace_of(hall) * growth_of(hall, arc))


def is_kept_behind(hall, table, state, arcs):
    """Whether a TABLE has what it has to have behind these ARCS from one of its STATES."""
    for arc in arcs:
        later, more = gain_behind(hall, state, arc)
        gain = table[state] + more
        most = 0 if later[0] == hall[2] else table.get(later)
        if most is None or gain > most:
            return False
    return True


def is_table(hall, thing):
    """Whether a value is a TABLE of a HALL."""
    if type(thing) is not dict:
        return False
    if not all([is_state(hall, state) and is_integer(gain) for state, gain in thing.items()]):
        return False
    if not all([thing.get(full_state(hall, name), -1) >= 0 for name in names_of(hall)]):
        return False
    arcs = {name: arcs_from(hall, name) for name in names_of(hall)}
    return all([is_kept_behind(hall, thing, state, arcs[state[0]]) for state in thing])


def rows_of(hall, web, numbers):
    """The ROWS of a HALL, of its web_of and the numbers of its STATES."""
    pace = pace_of(hall)
    growths = {arc: growth_of(hall, arc) for name in names_of(hall) for arc in arcs_from(hall, name)}
    rows = []
    for state in numbers:
        row = []
        for arc, later, ticks in web[state]:
            number = None if later[0] == hall[2] else numbers[later]
            row.append((arc, number, ticks - pace * growths[arc]))
        rows.append(row)
    return rows


def led_on(rows, found, came, latest):
    """Leads what is gained at the latest STATES on, and returns the list of those at which it has come to be greater.

    Found has what is gained at each STATE, None for one without a way; came where it is from, a tuple (number, arc).
    """
    greater = {}
    for at in latest:
        for arc, to, more in rows[at]:
            if to is not None and (found[to] is None or found[at] + more > found[to]):
                found[to] = found[at] + more
                came[to] = (at, arc)
                greater[to] = True
    return list(greater)


def paying_end(rows, found, latest):
    """A tuple (number, arc) of one of the latest STATES and an ARC by which a WALK PAYS, None if there is none."""
    for at in latest:
        for arc, to, more in rows[at]:
            if to is None and found[at] + more > 0:
                return (at, arc)
    return None


def ring_from(came, latest):
    """The number of a STATE that came from itself, and from which a latest one came, None if there is none."""
    seen = {}
    for start in latest:
        at = start
        while at not in seen and came[at] is not None:
            seen[at] = start
            at = came[at][0]
        if seen.get(at) == start:
            return at
    return None


def trail(came, at, begin):
    """The tuple (number, arcs): the ARCS by which a STATE came from begin, or from one that came from none."""
    arcs = []
    while came[at] is not None and (at != begin or not arcs):
        at, arc = came[at]
        arcs.append(arc)
    return (at, tuple(arcs[::-1]))


def gain_along(hall, state, arcs):
    """The tuple (state, gain) behind ARCS that lead on from a STATE."""
    gain = 0
    for arc in arcs:
        state, more = gain_behind(hall, state, arc)
        gain += more
    return (state, gain)


def round_walk(hall, arcs):
    """A WALK that PAYS: along the ARCS of a round by which more is gained each time, as often as it takes, and home."""
    names = [start_of(hall, arc) for arc in arcs]
    growths = {name: least_growth(hall, name, hall[2]) for name in sorted(set(names))}
    _, at = min([(growths[name], at) for at, name in enumerate(names)])
    lap = arcs[at:] + arcs[:at]
    home = least_arcs(hall, names[at], hall[2])
    # Behind the first time PURSES on the round HOLD the same each time, and others are full: each later time gains as
    # much as the second one does, and the way home takes as much.
    state, first = gain_along(hall, full_state(hall, names[at]), lap)
    _, each = gain_along(hall, state, lap)
    _, last = gain_along(hall, state, home)
    more = max(0, -((first + last - 1) // each))
    return (names[at], lap * (more + 1) + home)


def searched(hall):
    """The tuple (table, walk): the TABLE with the least integers and None, or None and a WALK that PAYS."""
    web = web_of(hall)
    states = sorted(web)
    numbers = {state: number for number, state in enumerate(states)}
    rows = rows_of(hall, web, numbers)
    latest = [numbers[full_state(hall, name)] for name in names_of(hall)]
    found = [None] * len(states)
    came = [None] * len(states)
    for at in latest:
        found[at] = 0
    while latest:
        end = paying_end(rows, found, latest)
        if end is not None:
            begin, arcs = trail(came, end[0], None)
            return (None, (states[begin][0], arcs + (end[1],)))
        latest = led_on(rows, found, came, latest)
        at = ring_from(came, latest)
        if at is not None:
            return (None, round_walk(hall, trail(came, at, at)[1]))
    return ({state: found[number] for state, number in numbers.items()}, None)


def gains(hall):
    """The TABLE with the least integers, if the HALL HOLDS, None otherwise."""
    return searched(hall)[0]
