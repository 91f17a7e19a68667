"""The arcs of a hall, and the ways of least growth between its machines."""

from heapq import heappop, heappush

from fillerfed.halls import names_of


def arcs_of(hall):
    """The tuple of all ARCS: next ones by names, then for each BELT the down one and the up one."""
    ahead = [("next", name) for name in names_of(hall)]
    return tuple(ahead + [(kind, index) for index in range(len(hall[1])) for kind in ("down", "up")])


def start_of(hall, arc):
    """The name of the machine from which an ARC leads."""
    kind, where = arc
    if kind == "next":
        return where
    return hall[1][where][0 if kind == "down" else 1]


def end_of(hall, arc):
    """The name of the machine to which an ARC leads."""
    kind, where = arc
    if kind == "next":
        return where
    return hall[1][where][1 if kind == "down" else 0]


def growth_of(hall, arc):
    """The GROWTH of an ARC."""
    kind, where = arc
    if kind == "next":
        return 1
    _, _, room, first = hall[1][where]
    return first if kind == "down" else room - first


def does_end(arc):
    """Whether an ARC is one by which a piece is ENDED."""
    return arc[0] in ("next", "down")


def arcs_from(hall, name):
    """The tuple of those ARCS that lead from this machine."""
    return tuple([arc for arc in arcs_of(hall) if start_of(hall, arc) == name])


def arcs_to(hall, name):
    """The tuple of those ARCS that lead to this machine."""
    return tuple([arc for arc in arcs_of(hall) if end_of(hall, arc) == name])


def least_way(hall, one, other):
    """The tuple (growth, arcs) of the least WAY from one machine to the other."""
    steps = {name: arcs_from(hall, name) for name in names_of(hall)}
    done = {}
    # WAYS come in the order of their growth, of how many ARCS they have, and of the ARCS: what comes to a machine first
    # is the least that does, and goes on as the least.
    queue = [(0, 0, (), one)]
    while other not in done:
        growth, many, arcs, here = heappop(queue)
        if here in done:
            continue
        done[here] = (growth, arcs)
        for arc in steps[here]:
            heappush(queue, (growth + growth_of(hall, arc), many + 1, arcs + (arc,), end_of(hall, arc)))
    return done[other]


def least_growth(hall, one, other):
    """The least GROWTH of a WAY from one machine to the other, 0 from a machine to itself."""
    return least_way(hall, one, other)[0]


def least_arcs(hall, one, other):
    """The ARCS of a WAY of this GROWTH, as few as there can be, and of these the least tuple."""
    return least_way(hall, one, other)[1]
