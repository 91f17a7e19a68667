"""The worst losses, over all stops that are let: at each piece, and behind any number of pieces."""

from fillerfed.forms import is_tuple_of
from fillerfed.halls import names_of, pace_of
from fillerfed.paces import are_bounds, sums_or_lap, way_web
from fillerfed.rings import is_live, rise
from fillerfed.states import full_state
from fillerfed.tables import begun, rows_of, steps_of, trail
from fillerfed.walks import end_of_way, is_way
from fillerfed.walkstops import gain_of


def led_up(steps, order, index, found, came):
    """Leads the TICKS with which one comes to STATES at an INDEX on, to this INDEX and to greater ones."""
    for at in order:
        if found[index][at] is None:
            continue
        for arc, to, growth, more in steps[at]:
            then = index + growth
            ticks = found[index][at] + more
            if then < len(found) and (found[then][to] is None or found[then][to] < ticks):
                found[then][to] = ticks
                came[then][to] = (index, at, arc)


def greatest_ticks(hall, many):
    """The tuple (states, found, came) of all STATES and what is greatest along WAYS at each INDEX below many.

    Found has for each INDEX, by numbers of STATES, the greatest TICKS of a WAY, None if there is none; came where it is
    from, a tuple (index, number, arc).
    """
    web = way_web(hall)
    states = sorted(web)
    steps = steps_of(hall, web, None)
    heights = rise(hall)
    # An ARC leads to a greater INDEX, or at the same one to a greater height: what is led on is the greatest already.
    order = [at for _, at in sorted([(heights[state[0]], at) for at, state in enumerate(states)])]
    found = [[None] * len(states) for _ in range(many)]
    came = [[None] * len(states) for _ in range(many)]
    if many > 0:
        found[0] = begun(hall, states)[0]
    for index in range(many):
        led_up(steps, order, index, found, came)
    return (states, found, came)


def filler_best(hall, states, sums):
    """The tuple (sum, number) of the greatest sum at a STATE of the FILLER; sums are by numbers, some None."""
    return max([(sums[at], at) for at, state in enumerate(states) if state[0] == hall[2] and sums[at] is not None])


def losses(hall, many):
    """The tuple of the LOSSES at each of many pieces."""
    states, found, _ = greatest_ticks(hall, many)
    pace = pace_of(hall)
    return tuple([filler_best(hall, states, sums)[0] - pace * index for index, sums in enumerate(found)])


def loss_way(hall, piece):
    """A WAY to the FILLER with this INDEX whose GAIN is the LOSS there."""
    states, found, came = greatest_ticks(hall, piece + 1)
    _, at = filler_best(hall, states, found[piece])
    index = piece
    arcs = []
    while came[index][at] is not None:
        index, at, arc = came[index][at]
        arcs.append(arc)
    return (states[at][0], tuple(arcs[::-1]))


def worst_sums(hall):
    """The tuple (states, sums, came) of the greatest GAINS of WAYS, by numbers of STATES; None if they never end."""
    web = way_web(hall)
    states = sorted(web)
    sums, came, lap = sums_or_lap(hall, states, rows_of(steps_of(hall, web, None), (pace_of(hall), 1)))
    return (states, sums, came) if lap is None else None


def worst_loss(hall):
    """The greatest of the LOSSES at all pieces, None if there is none."""
    told = worst_sums(hall)
    return None if told is None else filler_best(hall, told[0], told[1])[0]


def loss_paper(hall):
    """A LOSS PAPER (way, bounds) of a HALL, None if worst_loss is."""
    told = worst_sums(hall)
    if told is None:
        return None
    states, sums, came = told
    begin, arcs = trail(came, filler_best(hall, states, sums)[1], None)
    return ((states[begin][0], arcs), dict(zip(states, sums)))


def is_loss_paper(hall, thing):
    """Whether a value is a LOSS PAPER of a LIVE HALL."""
    if not is_tuple_of(thing, 2) or not is_live(hall):
        return False
    way, bounds = thing
    if not is_way(hall, way) or end_of_way(hall, way) != hall[2] or not are_bounds(hall, (pace_of(hall), 1), bounds):
        return False
    if not all([bounds[full_state(hall, name)] >= 0 for name in names_of(hall)]):
        return False
    gain = gain_of(hall, way)
    return all([most <= gain for state, most in bounds.items() if state[0] == hall[2]])
