"""What machines do, tick by tick; slow and plain.

A MOMENT is a tuple (tick, lying, made): how many pieces lie on each BELT, and for each MACHINE the tuple (begun, until)
of how many pieces it has begun and of the tick at which the one that it makes ENDS, None if it makes none.
"""

from fillerfed.errors import Dead, TooMany
from fillerfed.halls import names_of
from fillerfed.rings import dead_ring

LAST_TICK = 20000


def piece_time(stops, machine, piece):
    """The time of a MACHINE and all ticks of STOPS at a piece of it, together."""
    name, time, purses = machine
    return time + sum([stops.get((name, piece, index), 0) for index in range(len(purses))])


def with_ends(hall, moment):
    """The MOMENT behind the ENDS of its tick."""
    tick, lying, made = moment
    ending = [machine[0] for machine, (_, until) in zip(hall[0], made) if until == tick]
    lying = tuple([many + 1 if belt[0] in ending else many for belt, many in zip(hall[1], lying)])
    made = tuple([(begun, None if until == tick else until) for begun, until in made])
    return (tick, lying, made)


def can_take_and_put(hall, name, lying):
    """Whether a piece lies on each BELT to a machine, and fewer than its room on each from it."""
    for (start, end, room, _), many in zip(hall[1], lying):
        if (end == name and many == 0) or (start == name and many >= room):
            return False
    return True


def ready(hall, many, moment):
    """The place of the first machine that can begin a piece below many, None if none can."""
    _, lying, made = moment
    for place, (begun, until) in enumerate(made):
        if until is None and begun < many and can_take_and_put(hall, hall[0][place][0], lying):
            return place
    return None


def with_begin(hall, stops, moment, place):
    """The MOMENT behind the begin of a piece by the machine at a place."""
    tick, lying, made = moment
    machine = hall[0][place]
    begun = made[place][0]
    lying = tuple([many - 1 if belt[1] == machine[0] else many for belt, many in zip(hall[1], lying)])
    now = (begun + 1, tick + piece_time(stops, machine, begun))
    return (tick, lying, made[:place] + (now,) + made[place + 1:])


def with_begins(hall, stops, many, moment):
    """The MOMENT behind all begins of its tick."""
    place = ready(hall, many, moment)
    while place is not None:
        moment = with_begin(hall, stops, moment, place)
        place = ready(hall, many, moment)
    return moment


def first_moment(hall, stops, many):
    """The MOMENT of the tick 0, behind all that happens at it."""
    lying = tuple([belt[3] for belt in hall[1]])
    return with_begins(hall, stops, many, (0, lying, ((0, None),) * len(hall[0])))


def next_moment(hall, stops, many, moment):
    """The MOMENT behind all that happens at the tick behind that of a MOMENT."""
    tick, lying, made = moment
    return with_begins(hall, stops, many, with_ends(hall, (tick + 1, lying, made)))


def tick_begins(hall, stops, many):
    """The ticks at which the machines begin their first many pieces, in tuples by their names."""
    ring = dead_ring(hall)
    if ring is not None:
        raise Dead(ring)
    names = names_of(hall)
    found = {name: [] for name in names}
    moment = first_moment(hall, stops, many)
    while True:
        tick, _, made = moment
        for name, (begun, _) in zip(names, made):
            if begun > len(found[name]):
                found[name].append(tick)
        if min([begun for begun, _ in made]) == many:
            return {name: tuple(found[name]) for name in names}
        if tick == LAST_TICK:
            raise TooMany(LAST_TICK)
        moment = next_moment(hall, stops, many, moment)
