"""Whether a value is what a name of the document says. No value makes these functions fail."""

from fillerfed.fractions import reduced


def is_tuple_of(thing, many):
    """Whether a value is a tuple with so many members."""
    return type(thing) is tuple and len(thing) == many


def is_just(thing, told):
    """Whether a value is just this one, of the same kinds; it has integers, strings and tuples of such."""
    if type(told) is tuple:
        return is_tuple_of(thing, len(told)) and all([is_just(part, other) for part, other in zip(thing, told)])
    return type(thing) is type(told) and thing == told


def is_integer(thing):
    """Whether a value is an integer; True and False are none."""
    return type(thing) is int


def is_count(thing):
    """Whether a value is an integer from 0 on."""
    return is_integer(thing) and thing >= 0


def is_positive(thing):
    """Whether a value is an integer from 1 on."""
    return is_integer(thing) and thing >= 1


def is_name(thing):
    """Whether a value is a NAME: a string of 1 to 12 small letters."""
    if type(thing) is not str or not 1 <= len(thing) <= 12:
        return False
    return all(["a" <= letter <= "z" for letter in thing])


def is_fraction(thing):
    """Whether a value is a FRACTION."""
    if not is_tuple_of(thing, 2):
        return False
    n, d = thing
    return is_integer(n) and is_positive(d) and reduced(n, d) == thing


def is_purse(thing):
    """Whether a value is a PURSE (size, back)."""
    return is_tuple_of(thing, 2) and is_positive(thing[0]) and is_count(thing[1])


def are_purses(thing):
    """Whether a value is a tuple of PURSES."""
    return type(thing) is tuple and all([is_purse(purse) for purse in thing])


def is_machine(thing):
    """Whether a value is a MACHINE (name, time, purses)."""
    if not is_tuple_of(thing, 3):
        return False
    name, time, purses = thing
    return is_name(name) and is_positive(time) and are_purses(purses)


def is_belt(thing):
    """Whether a value is a BELT (start, end, room, first), whatever machines there are."""
    if not is_tuple_of(thing, 4):
        return False
    start, end, room, first = thing
    if not is_name(start) or not is_name(end) or start == end:
        return False
    return is_positive(room) and is_count(first) and first <= room


def is_joined(names, belts, name):
    """Whether from this name one comes to each of the names along belts, whichever way these lead."""
    beside = {one: [] for one in names}
    for belt in belts:
        beside[belt[0]].append(belt[1])
        beside[belt[1]].append(belt[0])
    reached = {name: True}
    waiting = [name]
    while waiting:
        here = waiting.pop()
        for other in beside[here]:
            if other not in reached:
                reached[other] = True
                waiting.append(other)
    return len(reached) == len(names)


def are_machines(thing):
    """Whether a value is a tuple of MACHINES, ascending by name, no two with one name."""
    if type(thing) is not tuple or not all([is_machine(machine) for machine in thing]):
        return False
    return all([one[0] < other[0] for one, other in zip(thing, thing[1:])])


def are_belts(purses, thing):
    """Whether a value is a tuple of BELTS between the machines of which purses are told."""
    if type(thing) is not tuple or not all([is_belt(belt) for belt in thing]):
        return False
    return all([belt[0] in purses and belt[1] in purses for belt in thing])


def is_hall(thing):
    """Whether a value is a HALL (machines, belts, filler), LIVE or not."""
    if not is_tuple_of(thing, 3):
        return False
    machines, belts, filler = thing
    if not are_machines(machines) or not is_name(filler):
        return False
    purses = {machine[0]: machine[2] for machine in machines}
    if filler not in purses or purses[filler] != ():
        return False
    return are_belts(purses, belts) and is_joined(tuple(purses), belts, filler)


def is_purse_piece(counts, thing):
    """Whether a value is a key of STOPS (name, piece, purse), of counts of PURSES by names."""
    if not is_tuple_of(thing, 3):
        return False
    name, piece, purse = thing
    if not is_name(name) or name not in counts:
        return False
    return is_count(piece) and is_count(purse) and purse < counts[name]


def is_stops(hall, thing):
    """Whether a value is STOPS of a HALL, LET or not."""
    if type(thing) is not dict:
        return False
    counts = {machine[0]: len(machine[2]) for machine in hall[0]}
    return all([is_purse_piece(counts, key) and is_positive(ticks) for key, ticks in thing.items()])


def is_arc(hall, thing):
    """Whether a value is an ARC of a HALL."""
    if not is_tuple_of(thing, 2) or type(thing[0]) is not str:
        return False
    kind, where = thing
    if kind == "next":
        return is_name(where) and where in [machine[0] for machine in hall[0]]
    return kind in ("down", "up") and is_count(where) and where < len(hall[1])
