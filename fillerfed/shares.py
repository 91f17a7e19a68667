"""Shares of time and room by which a tree holds, and lines in which nothing of them can be spared."""

from fillerfed.halls import names_of, pace_of, purses_of, time_of, with_belt, with_purses, with_time
from fillerfed.trees import back_home, belt_home, is_line, there_and_back, way_home
from fillerfed.walkstops import gain_of


def others_of(hall):
    """The list of the names of all machines but the FILLER."""
    return [name for name in names_of(hall) if name != hall[2]]


def room_home(hall, name):
    """The room of the belt that leads from a machine of a TREE, not the FILLER."""
    return hall[1][belt_home(hall, name)][2]


def room_share(hall, name):
    """The ticks that the belt from a machine of a TREE makes good, less the machine's time."""
    return room_home(hall, name) * (pace_of(hall) - back_home(hall, name)) - time_of(hall, name)


def slack_of(hall, name):
    """The tuple of what is left of the PACE and of the room of a machine of a TREE, not the FILLER."""
    size = sum([one for one, _ in purses_of(hall, name)])
    back = sum([one for _, one in purses_of(hall, name)])
    return (pace_of(hall) - time_of(hall, name) - back - back_home(hall, name), room_share(hall, name) - size)


def slacks(hall):
    """The tuples of what is left of the PACE and of the room of each machine of a TREE but the FILLER, by names."""
    return {name: slack_of(hall, name) for name in others_of(hall)}


def has_shares(hall):
    """Whether no integer of slacks is below 0."""
    return all([min(slack) >= 0 for slack in slacks(hall).values()])


def share_gain(hall, state):
    """The integer of a STATE in the TABLE of a TREE that has shares."""
    name, contents = state
    told = dict(zip(names_of(hall), contents))
    return sum([room_share(hall, one) - sum(told[one]) for one in way_home(hall, name)])


def straight_gains(hall):
    """The GAINS of the WALKS there and back of all machines of a TREE but the FILLER, by names."""
    return {name: gain_of(hall, there_and_back(hall, name)) for name in others_of(hall)}


def is_deep(hall, name):
    """Whether a machine of a LINE has one PURSE, and what this asks of its size for the sake of the belts ahead."""
    purses = purses_of(hall, name)
    if len(purses) != 1:
        return False
    size, back = purses[0]
    ahead = [one for one in others_of(hall) if one != name and name in way_home(hall, one)]
    rooms = sum([room_home(hall, one) for one in ahead])
    return size >= (back + 1) * (rooms + len(ahead) + 1)


def is_just_so(hall):
    """Whether a HALL is a LINE that is JUST SO."""
    if not is_line(hall) or not others_of(hall):
        return False
    return all([slack == (0, 0) and is_deep(hall, name) for name, slack in slacks(hall).items()])


def spoiled_at(hall, name):
    """The list of the LINES that come of one by a change at a machine with one PURSE."""
    belt = belt_home(hall, name)
    room = room_home(hall, name)
    size, back = purses_of(hall, name)[0]
    found = [with_belt(hall, belt, room - 1, room - 1)] if room > 1 else []
    found.append(with_time(hall, name, time_of(hall, name) + 1))
    found.append(with_purses(hall, name, ((size + 1, back),)))
    found.append(with_purses(hall, name, ((size, back + 1),)))
    return found


def spoiled(hall):
    """The list of the LINES that come of one each of whose machines but the FILLER has one PURSE."""
    return [line for name in others_of(hall) for line in spoiled_at(hall, name)]
