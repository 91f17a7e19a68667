"""The worst pace for ever, over all stops that are let, shown from both sides.

A ROUND is a tuple (state, arcs), by ARCS back to the same STATE. It is called lap here, as `round` is Python's own.
"""

from fillerfed.forms import is_tuple_of
from fillerfed.fractions import reduced
from fillerfed.halls import names_of
from fillerfed.rings import is_live
from fillerfed.states import behind_all, full_state, is_state, web_of
from fillerfed.tables import are_kept, are_state_sums, begun, led_on, ring_from, rows_of, steps_of, trail
from fillerfed.walks import is_way, way_to_filler

MOST_WAY_STATES = 4000


def way_web(hall):
    """The web of the STATES to which one comes on WAYS."""
    return web_of(hall, None, MOST_WAY_STATES)


def way_states(hall):
    """The ascending tuple of all STATES to which one comes from full ones by ARCS, also by the FILLER."""
    return tuple(sorted(way_web(hall)))


def state_of_way(hall, way):
    """The STATE to which a WAY comes from the full one of its begin."""
    begin, arcs = way
    return behind_all(hall, full_state(hall, begin), arcs)[0]


def is_round(hall, thing):
    """Whether a value is a ROUND."""
    if not is_tuple_of(thing, 2) or not is_state(hall, thing[0]):
        return False
    state, arcs = thing
    if not is_way(hall, (state[0], arcs)) or len(arcs) == 0:
        return False
    return behind_all(hall, state, arcs)[0] == state


def mean_of(hall, lap):
    """The MEAN of a ROUND."""
    _, ticks, growth = behind_all(hall, lap[0], lap[1])
    return reduced(ticks, growth)


def are_bounds(hall, fraction, thing):
    """Whether a value is BOUNDS of a HALL for a FRACTION."""
    return are_state_sums(hall, thing) and are_kept(hall, thing, fraction, None)


def sums_or_lap(hall, states, rows):
    """The tuple (sums, came, lap) of the greatest sums along ARCS, by numbers, and of None.

    Came has where they are from, as led_on tells. If they grow round a ROUND, lap is this one.
    """
    found, came, latest = begun(hall, states)
    passes = 0
    asked = 1
    while latest:
        latest = led_on(rows, found, came, latest)
        passes += 1
        # Sums that grow round a ROUND do so for ever. It is sought ever more seldom: those found later are better ones.
        if passes == asked:
            asked = asked * 2
            at = ring_from(came, latest)
            if at is not None:
                return (found, came, (states[at], trail(came, at, at)[1]))
    return (found, came, None)


def worst_lap(hall, web):
    """The tuple (lap, bounds) of a ROUND with the greatest MEAN, and of BOUNDS for it."""
    states = sorted(web)
    steps = steps_of(hall, web, None)
    better = (full_state(hall, hall[2]), (("next", hall[2]),))
    while better is not None:
        lap = better
        found, _, better = sums_or_lap(hall, states, rows_of(steps, mean_of(hall, lap)))
    return (lap, dict(zip(states, found)))


def worst_pace(hall):
    """The greatest MEAN of all ROUNDS from STATES of way_states."""
    return mean_of(hall, worst_lap(hall, way_web(hall))[0])


def way_into(hall, web, state):
    """A WAY that comes to a STATE of a web."""
    came = {full_state(hall, name): None for name in names_of(hall)}
    latest = list(came)
    while state not in came:
        later = []
        for here in latest:
            for arc, there, _ in web[here]:
                if there not in came:
                    came[there] = (here, arc)
                    later.append(there)
        latest = later
    arcs = []
    while came[state] is not None:
        state, arc = came[state]
        arcs.append(arc)
    return (state[0], tuple(arcs[::-1]))


def pace_paper(hall):
    """A PACE PAPER (way, round, bounds) of a HALL."""
    web = way_web(hall)
    lap, bounds = worst_lap(hall, web)
    return (way_into(hall, web, lap[0]), lap, bounds)


def is_pace_paper(hall, thing):
    """Whether a value is a PACE PAPER of a LIVE HALL."""
    if not is_tuple_of(thing, 3) or not is_live(hall):
        return False
    way, lap, bounds = thing
    if not is_way(hall, way) or not is_round(hall, lap) or state_of_way(hall, way) != lap[0]:
        return False
    return are_bounds(hall, mean_of(hall, lap), bounds)


def latest_tick(hall, paper, piece):
    """The tick behind which the FILLER, LEFT ALONE, does not begin a piece, whatever STOPS that are LET."""
    _, lap, bounds = paper
    n, d = mean_of(hall, lap)
    high = max([bounds[state] for state in bounds if state[0] == hall[2]])
    low = min([bounds[full_state(hall, name)] for name in names_of(hall)])
    return (n * piece + high - low) // d


def pace_way(hall, paper, times):
    """The WAY of a PACE PAPER, then its ROUND so many times, and on to the FILLER."""
    (begin, ahead), (state, arcs), _ = paper
    return (begin, ahead + arcs * times + way_to_filler(hall, state[0]))
