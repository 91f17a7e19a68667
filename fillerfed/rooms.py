"""Which rooms are least for a hall to hold, and what shows it.

EVIDENCE is a VERDICT of a LIVE HALL, or ("dead", ring) of one that is not.
"""

from fillerfed.errors import TooMany
from fillerfed.forms import is_positive, is_tuple_of
from fillerfed.rings import dead_ring, is_dead_ring
from fillerfed.verdicts import is_verdict, verdict

MOST_ROOMS = 400


def is_full(belt):
    """Whether a BELT is FULL at first."""
    return belt[2] == belt[3]


def least_room(belt):
    """The least room that a BELT can have in ROOMS."""
    return 1 if is_full(belt) else max(1, belt[3])


def is_rooms(hall, thing):
    """Whether a value is ROOMS of a HALL."""
    if not is_tuple_of(thing, len(hall[1])) or not all([is_positive(room) for room in thing]):
        return False
    return all([room >= least_room(belt) for belt, room in zip(hall[1], thing)])


def with_room(belt, room):
    """The BELT with this room: a FULL one is full with it."""
    start, end, _, first = belt
    return (start, end, room, room if is_full(belt) else first)


def with_rooms(hall, rooms):
    """The HALL whose BELTS have these rooms."""
    machines, belts, filler = hall
    return (machines, tuple([with_room(belt, room) for belt, room in zip(belts, rooms)]), filler)


def evidence(hall):
    """EVIDENCE of a HALL."""
    ring = dead_ring(hall)
    return verdict(hall) if ring is None else ("dead", ring)


def is_evidence(hall, thing):
    """Whether a value is EVIDENCE of a HALL."""
    if is_tuple_of(thing, 2) and type(thing[0]) is str and thing[0] == "dead":
        return is_dead_ring(hall, thing[1])
    return is_verdict(hall, thing)


def is_holding(told):
    """Whether EVIDENCE is of a HALL that HOLDS."""
    return told[0] == "holds"


def at_least(one, other):
    """Whether one row of ROOMS is AT LEAST another one."""
    return all([room >= less for room, less in zip(one, other)])


def rooms_up_to(hall, most):
    """The ascending list of all ROOMS UP TO most."""
    many = 1
    for belt in hall[1]:
        many = many * (most + 1 - least_room(belt))
    if many > MOST_ROOMS:
        raise TooMany(MOST_ROOMS)
    rows = [()]
    for belt in hall[1]:
        rows = [row + (room,) for row in rows for room in range(least_room(belt), most + 1)]
    return rows


def least_rooms(hall, most):
    """The tuple (least, lost) of the least ROOMS with which a HALL HOLDS, and the greatest with which it does not."""
    told = [(rooms, evidence(with_rooms(hall, rooms))) for rooms in rooms_up_to(hall, most)]
    good = [(rooms, shown[1]) for rooms, shown in told if is_holding(shown)]
    bad = [(rooms, shown) for rooms, shown in told if not is_holding(shown)]
    least = [pair for pair in good if not any([at_least(pair[0], one) and pair[0] != one for one, _ in good])]
    lost = [pair for pair in bad if not any([at_least(one, pair[0]) and pair[0] != one for one, _ in bad])]
    return (tuple(least), tuple(lost))


def are_couples(hall, rows, thing):
    """Whether a value is a tuple of couples of unlike ROOMS of these rows, ascending, none AT LEAST another one."""
    if type(thing) is not tuple or not all([is_tuple_of(couple, 2) and is_rooms(hall, couple[0]) for couple in thing]):
        return False
    found = [rooms for rooms, _ in thing]
    if not all([rooms in rows for rooms in found]) or not all([one < other for one, other in zip(found, found[1:])]):
        return False
    return not any([at_least(one, other) and one != other for one in found for other in found])


def is_told(hall, rows, least, lost):
    """Whether each of these rows of ROOMS is AT LEAST one of least, or one of lost is AT LEAST it."""
    for row in rows:
        if not any([at_least(row, one) for one, _ in least]) and not any([at_least(one, row) for one, _ in lost]):
            return False
    return True


def is_least_rooms(hall, most, thing):
    """Whether a value is a tuple as least_rooms returns."""
    rows = rooms_up_to(hall, most)
    if not is_tuple_of(thing, 2) or not all([are_couples(hall, rows, part) for part in thing]):
        return False
    least, lost = thing
    if not is_told(hall, rows, least, lost):
        return False
    if not all([is_evidence(with_rooms(hall, rooms), ("holds", table)) for rooms, table in least]):
        return False
    shown = [(rooms, told) for rooms, told in lost if is_evidence(with_rooms(hall, rooms), told)]
    return len(shown) == len(lost) and not any([is_holding(told) for _, told in shown])


def price_of(rooms, prices):
    """The sum of rooms times prices."""
    return sum([room * price for room, price in zip(rooms, prices)])


def cheapest_rooms(hall, most, prices):
    """The tuple (price, rooms) of the cheapest ROOMS with which a HALL HOLDS, None if there are none."""
    least, _ = least_rooms(hall, most)
    # Prices are not below 0: no ROOMS are cheaper than the least ones that they are AT LEAST.
    return min([(price_of(rooms, prices), rooms) for rooms, _ in least]) if least else None
