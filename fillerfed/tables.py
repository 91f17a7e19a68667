"""Tables, by which no walk pays, and the search, which ends with a table or with a walk that pays.

A search numbers the STATES of a web, ascending. STEPS have for each of them the list of tuples (arc, number, growth,
ticks), one for each ARC from it: the number of the STATE behind the ARC, None where the web ends, and what the ARC
grows and takes. ROWS have tuples (arc, number, gain) instead: what is gained by the ARC.
"""

from fillerfed.arcs import arcs_from, growth_of, least_arcs, least_growth, start_of
from fillerfed.forms import is_integer
from fillerfed.halls import names_of, pace_of
from fillerfed.states import behind, behind_all, full_state, is_state, walk_web


def is_kept_behind(hall, sums, state, arcs, fraction, last):
    """Whether the STATES behind these ARCS have at least what leads there from this STATE.

    Of each ARC this is what it takes more than its growth times the FRACTION, times its d. What leads to the machine
    `last`, if it is not None, is asked to be at most 0 instead.
    """
    n, d = fraction
    for arc in arcs:
        later, ticks = behind(hall, state, arc)
        most = 0 if later[0] == last else sums.get(later)
        if most is None or most < sums[state] + d * ticks - n * growth_of(hall, arc):
            return False
    return True


def are_kept(hall, sums, fraction, last):
    """Whether it is so behind each ARC from each key of a dict from STATES to integers."""
    arcs = {name: arcs_from(hall, name) for name in names_of(hall)}
    return all([is_kept_behind(hall, sums, state, arcs[state[0]], fraction, last) for state in sums])


def are_state_sums(hall, thing):
    """Whether a value is a dict from STATES of a HALL to integers in which each full_state is a key."""
    if type(thing) is not dict:
        return False
    if not all([is_state(hall, state) and is_integer(gain) for state, gain in thing.items()]):
        return False
    return all([full_state(hall, name) in thing for name in names_of(hall)])


def is_table(hall, thing):
    """Whether a value is a TABLE of a HALL."""
    if not are_state_sums(hall, thing) or not all([thing[full_state(hall, name)] >= 0 for name in names_of(hall)]):
        return False
    return are_kept(hall, thing, (pace_of(hall), 1), hall[2])


def steps_of(hall, web, last):
    """The STEPS of a web that ends at the machine `last`, None if it ends nowhere."""
    numbers = {state: number for number, state in enumerate(sorted(web))}
    growths = {arc: growth_of(hall, arc) for name in names_of(hall) for arc in arcs_from(hall, name)}
    steps = []
    for state in numbers:
        row = []
        for arc, later, ticks in web[state]:
            number = None if later[0] == last else numbers[later]
            row.append((arc, number, growths[arc], ticks))
        steps.append(row)
    return steps


def rows_of(steps, fraction):
    """The ROWS of STEPS by which is gained what an ARC takes more than its growth times a FRACTION, times its d."""
    n, d = fraction
    return [[(arc, to, d * ticks - n * growth) for arc, to, growth, ticks in row] for row in steps]


def begun(hall, states):
    """The tuple (found, came, latest) ahead of a search: 0 is gained at full STATES, from which it begins."""
    fulls = {full_state(hall, name): True for name in names_of(hall)}
    latest = [number for number, state in enumerate(states) if state in fulls]
    found = [0 if state in fulls else None for state in states]
    return (found, [None] * len(states), latest)


def led_on(rows, found, came, latest):
    """Leads what is gained at the latest STATES on, and returns the list of those at which it has come to be greater.

    Found has what is gained at each STATE, None for one without a way; came where it is from, a tuple (number, arc).
    """
    greater = {}
    for at in latest:
        for arc, to, more in rows[at]:
            if to is not None and (found[to] is None or found[at] + more > found[to]):
                found[to] = found[at] + more
                came[to] = (at, arc)
                greater[to] = True
    return list(greater)


def paying_end(rows, found, latest):
    """A tuple (number, arc) of one of the latest STATES and an ARC by which a WALK PAYS, None if there is none."""
    for at in latest:
        for arc, to, more in rows[at]:
            if to is None and found[at] + more > 0:
                return (at, arc)
    return None


def ring_from(came, latest):
    """The number of a STATE that came from itself, and from which a latest one came, None if there is none."""
    seen = {}
    for start in latest:
        at = start
        while at not in seen and came[at] is not None:
            seen[at] = start
            at = came[at][0]
        if seen.get(at) == start:
            return at
    return None


def trail(came, at, begin):
    """The tuple (number, arcs): the ARCS by which a STATE came from begin, or from one that came from none."""
    arcs = []
    while came[at] is not None and (at != begin or not arcs):
        at, arc = came[at]
        arcs.append(arc)
    return (at, tuple(arcs[::-1]))


def gain_along(hall, state, arcs):
    """The tuple (state, gain) behind ARCS that lead on from a STATE."""
    later, ticks, growth = behind_all(hall, state, arcs)
    return (later, ticks - pace_of(hall) * growth)


def round_walk(hall, arcs):
    """A WALK that PAYS: along the ARCS of a round by which more is gained each time, as often as it takes, and home."""
    names = [start_of(hall, arc) for arc in arcs]
    growths = {name: least_growth(hall, name, hall[2]) for name in sorted(set(names))}
    _, at = min([(growths[name], at) for at, name in enumerate(names)])
    lap = arcs[at:] + arcs[:at]
    home = least_arcs(hall, names[at], hall[2])
    # Behind the first time PURSES on the round HOLD the same each time, and others are full: each later time gains as
    # much as the second one does, and the way home takes as much.
    state, first = gain_along(hall, full_state(hall, names[at]), lap)
    _, each = gain_along(hall, state, lap)
    _, last = gain_along(hall, state, home)
    more = max(0, -((first + last - 1) // each))
    return (names[at], lap * (more + 1) + home)


def searched(hall):
    """The tuple (table, walk): the TABLE with the least integers and None, or None and a WALK that PAYS."""
    web = walk_web(hall)
    states = sorted(web)
    rows = rows_of(steps_of(hall, web, hall[2]), (pace_of(hall), 1))
    found, came, latest = begun(hall, states)
    while latest:
        end = paying_end(rows, found, latest)
        if end is not None:
            begin, arcs = trail(came, end[0], None)
            return (None, (states[begin][0], arcs + (end[1],)))
        latest = led_on(rows, found, came, latest)
        at = ring_from(came, latest)
        if at is not None:
            return (None, round_walk(hall, trail(came, at, at)[1]))
    return (dict(zip(states, found)), None)


def gains(hall):
    """The TABLE with the least integers, if the HALL HOLDS, None otherwise."""
    return searched(hall)[0]
