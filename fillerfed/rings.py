"""Dead rings, by which a hall could never begin, and rises, which show that there is none."""

from fillerfed.arcs import arcs_of, end_of, growth_of, start_of
from fillerfed.errors import Dead
from fillerfed.forms import is_arc, is_integer
from fillerfed.halls import names_of


def still_steps(hall):
    """The list of tuples (arc, start, end), one for each ARC with the GROWTH 0."""
    return [(arc, start_of(hall, arc), end_of(hall, arc)) for arc in arcs_of(hall) if growth_of(hall, arc) == 0]


def longer_ways(steps, ways):
    """The least tuples of ARCS to the names of machines, of those that go one of these steps behind a way."""
    found = {}
    for arc, start, end in steps:
        if start in ways and (end not in found or ways[start] + (arc,) < found[end]):
            found[end] = ways[start] + (arc,)
    return found


def dead_ring(hall):
    """A DEAD RING with as few ARCS as can be, and of these the least, None if the HALL is LIVE."""
    steps = still_steps(hall)
    names = names_of(hall)
    ways = {name: {name: ()} for name in names}
    # A ring with as few ARCS as can be comes to no machine twice: it has no more ARCS than there are machines.
    for _ in names:
        ways = {name: longer_ways(steps, ways[name]) for name in names}
        rings = [ways[name][name] for name in names if name in ways[name]]
        if rings:
            return min(rings)
    return None


def is_live(hall):
    """Whether a HALL is LIVE."""
    pairs = [(start, end) for _, start, end in still_steps(hall)]
    names = list(names_of(hall))
    many = len(names) + 1
    # No machine of a DEAD RING is ever left out here, as another one of the ring leads to it. Where there is none, one
    # to which none leads is left out each time: this takes no search, also in a HALL of many machines.
    while len(names) < many:
        many = len(names)
        led_to = {end: True for start, end in pairs if start in names}
        names = [name for name in names if name in led_to]
    return many == 0


def is_dead_ring(hall, thing):
    """Whether a value is a DEAD RING of a HALL."""
    if type(thing) is not tuple or not thing or not all([is_arc(hall, arc) for arc in thing]):
        return False
    if not all([growth_of(hall, arc) == 0 for arc in thing]):
        return False
    return all([end_of(hall, one) == start_of(hall, other) for one, other in zip(thing, thing[1:] + thing[:1])])


def rise(hall):
    """The RISE with the greatest number of ARCS with the GROWTH 0 by which one can come to each machine."""
    ring = dead_ring(hall)
    if ring is not None:
        raise Dead(ring)
    pairs = [(start, end) for _, start, end in still_steps(hall)]
    heights = {name: 0 for name in names_of(hall)}
    # In a LIVE HALL a WAY by these ARCS comes to no machine twice: it has fewer ARCS than there are machines, and each
    # round goes at least one more of them.
    for _ in names_of(hall):
        for start, end in pairs:
            heights[end] = max(heights[end], heights[start] + 1)
    return heights


def rise_order(hall):
    """The list of the names of all machines, those with a lesser integer in rise first."""
    heights = rise(hall)
    return [name for _, name in sorted([(heights[name], name) for name in heights])]


def is_rise(hall, thing):
    """Whether a value is a RISE of a HALL."""
    names = names_of(hall)
    if type(thing) is not dict or len(thing) != len(names):
        return False
    if not all([name in thing and is_integer(thing[name]) for name in names]):
        return False
    return all([thing[start] < thing[end] for _, start, end in still_steps(hall)])
