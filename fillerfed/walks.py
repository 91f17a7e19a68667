"""Ways and walks through the web of a hall."""

from fillerfed.arcs import arcs_from, does_end, end_of, growth_of, start_of
from fillerfed.errors import TooMany
from fillerfed.forms import is_arc, is_name, is_tuple_of
from fillerfed.halls import names_of

MOST_WALKS = 20000


def is_way(hall, thing):
    """Whether a value is a WAY of a HALL."""
    if not is_tuple_of(thing, 2):
        return False
    begin, arcs = thing
    if not is_name(begin) or begin not in names_of(hall) or type(arcs) is not tuple:
        return False
    if not all([is_arc(hall, arc) for arc in arcs]):
        return False
    places = [begin] + [end_of(hall, arc) for arc in arcs]
    return places[:-1] == [start_of(hall, arc) for arc in arcs]


def is_walk(hall, thing):
    """Whether a value is a WALK of a HALL."""
    if not is_way(hall, thing):
        return False
    ends = [end_of(hall, arc) for arc in thing[1]]
    return len(ends) > 0 and ends[-1] == hall[2] and hall[2] not in ends[:-1]


def end_of_way(hall, way):
    """The name of the machine to which a WAY leads."""
    begin, arcs = way
    return end_of(hall, arcs[-1]) if arcs else begin


def indexes(hall, way):
    """The tuple of the INDEXES of a WAY: ahead of each ARC, and at its end."""
    found = [0]
    for arc in way[1]:
        found.append(found[-1] + growth_of(hall, arc))
    return tuple(found)


def index_of(hall, way):
    """The last INDEX of a WAY."""
    return indexes(hall, way)[-1]


def ended(hall, way):
    """The tuple of tuples (name, piece) of all pieces that a WAY ENDS, in the order in which it does."""
    return tuple([(start_of(hall, arc), index) for arc, index in zip(way[1], indexes(hall, way)) if does_end(arc)])


def way_to_filler(hall, name):
    """A tuple of down and up ARCS, as few as can be, by which one comes from a machine to the FILLER."""
    ways = {name: ()}
    latest = [name]
    while hall[2] not in ways:
        later = []
        for here in latest:
            for arc in arcs_from(hall, here):
                end = end_of(hall, arc)
                if end not in ways:
                    ways[end] = ways[here] + (arc,)
                    later.append(end)
        latest = later
    return ways[hall[2]]


def all_walks(hall, many):
    """The list of all WALKS with at most so many ARCS, by their begin and then ARC by ARC."""
    names = names_of(hall)
    far = {name: len(way_to_filler(hall, name)) for name in names}
    # What is put on the pile last is taken first.
    steps = {name: [(arc, end_of(hall, arc)) for arc in arcs_from(hall, name)[::-1]] for name in names}
    found = []
    pile = [(name, (), name) for name in names[::-1]]
    while pile:
        begin, arcs, here = pile.pop()
        if arcs and here == hall[2]:
            found.append((begin, arcs))
            if len(found) > MOST_WALKS:
                raise TooMany(MOST_WALKS)
            continue
        for arc, end in steps[here]:
            # Nothing is begun that cannot come to the FILLER any more.
            if len(arcs) + 1 + far[end] <= many:
                pile.append((begin, arcs + (arc,), end))
    return found
