"""Halls in which one full belt leads from each machine but the filler: trees, and lines, in which none join."""

from fillerfed.halls import belts_from, names_of, purses_of


def is_tree(hall):
    """Whether a HALL is a TREE."""
    _, belts, filler = hall
    starts = sorted([start for start, _, _, _ in belts])
    return starts == [name for name in names_of(hall) if name != filler] and all([belt[2] == belt[3] for belt in belts])


def is_line(hall):
    """Whether a HALL is a LINE."""
    ends = [end for _, end, _, _ in hall[1]]
    return is_tree(hall) and len(set(ends)) == len(ends)


def belt_home(hall, name):
    """The index of the belt that leads from a machine of a TREE, None for the FILLER."""
    belts = belts_from(hall, name)
    return belts[0] if belts else None


def belts_home(hall, name):
    """The list of the indexes of the belts from a machine of a TREE to the FILLER."""
    found = []
    belt = belt_home(hall, name)
    while belt is not None:
        found.append(belt)
        belt = belt_home(hall, hall[1][belt][1])
    return found


def way_home(hall, name):
    """The tuple of the names of the machines from which these belts lead."""
    return tuple([hall[1][belt][0] for belt in belts_home(hall, name)])


def back_home(hall, name):
    """The sum of the backs of all PURSES of the machines of way_home but the first one."""
    return sum([back for one in way_home(hall, name)[1:] for _, back in purses_of(hall, one)])


def there_and_back(hall, name):
    """The WALK from the FILLER up the belts to a machine, and down them home."""
    belts = belts_home(hall, name)
    return (hall[2], tuple([("up", belt) for belt in belts[::-1]] + [("down", belt) for belt in belts]))
