"""What a hall has, and halls with something else in one place."""

from fillerfed.errors import NoBelt, NoMachine


def names_of(hall):
    """The ascending tuple of the names of all machines."""
    return tuple([machine[0] for machine in hall[0]])


def machine_of(hall, name):
    """The MACHINE with this name."""
    for machine in hall[0]:
        if machine[0] == name:
            return machine
    raise NoMachine(name)


def time_of(hall, name):
    """The time of the machine with this name."""
    return machine_of(hall, name)[1]


def purses_of(hall, name):
    """The PURSES of the machine with this name."""
    return machine_of(hall, name)[2]


def pace_of(hall):
    """The PACE: the time of the FILLER."""
    return time_of(hall, hall[2])


def purse_places(hall):
    """The ascending tuple of the tuples (name, index), one for each PURSE of each machine."""
    return tuple([(name, index) for name, _, purses in hall[0] for index in range(len(purses))])


def check_name(hall, name):
    """Raises NoMachine if there is no machine with this name."""
    if name not in names_of(hall):
        raise NoMachine(name)


def belts_to(hall, name):
    """The ascending tuple of the indexes of the BELTS that lead to the machine with this name."""
    check_name(hall, name)
    return tuple([index for index, belt in enumerate(hall[1]) if belt[1] == name])


def belts_from(hall, name):
    """The ascending tuple of the indexes of the BELTS that lead from the machine with this name."""
    check_name(hall, name)
    return tuple([index for index, belt in enumerate(hall[1]) if belt[0] == name])


def neighbours(hall, name):
    """The ascending tuple of the names of the other machines of these BELTS."""
    starts = [hall[1][index][0] for index in belts_to(hall, name)]
    ends = [hall[1][index][1] for index in belts_from(hall, name)]
    return tuple(sorted(set(starts + ends)))


def with_machine(hall, machine):
    """The HALL in which a MACHINE stands in the place of the one with its name."""
    machines, belts, filler = hall
    return (tuple([machine if one[0] == machine[0] else one for one in machines]), belts, filler)


def with_time(hall, name, time):
    """The HALL in which the machine with this name has this time."""
    return with_machine(hall, (name, time, purses_of(hall, name)))


def with_purses(hall, name, purses):
    """The HALL in which the machine with this name has these PURSES."""
    return with_machine(hall, (name, time_of(hall, name), purses))


def with_belt(hall, index, room, first):
    """The HALL in which the BELT with this index has this room and first."""
    machines, belts, filler = hall
    if not 0 <= index < len(belts):
        raise NoBelt(index)
    start, end, _, _ = belts[index]
    return (machines, belts[:index] + ((start, end, room, first),) + belts[index + 1:], filler)
