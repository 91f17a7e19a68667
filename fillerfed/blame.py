"""Chains: ways along which each piece is begun as soon as the one ahead lets it, up to one of the filler."""

from fillerfed.arcs import does_end, growth_of, start_of
from fillerfed.rings import rise_order
from fillerfed.runs import begins, tight_arcs
from fillerfed.walks import end_of_way, index_of, is_way
from fillerfed.walkstops import ticks_with


def chain(hall, stops, piece):
    """A CHAIN of a piece of the FILLER in the RUN LEFT ALONE."""
    run = begins(hall, stops, piece + 1)
    name = hall[2]
    at = piece
    arcs = []
    # What is begun at the tick 0 is a first piece, as others come behind the END of one.
    while run[name][at] > 0:
        arc = tight_arcs(hall, stops, run, name, at)[0]
        arcs.append(arc)
        name = start_of(hall, arc)
        at -= growth_of(hall, arc)
    return (name, tuple(arcs[::-1]))


def is_chain(hall, stops, piece, thing):
    """Whether a value is a CHAIN of a piece of the FILLER."""
    if not is_way(hall, thing) or end_of_way(hall, thing) != hall[2] or index_of(hall, thing) != piece:
        return False
    return ticks_with(hall, thing, stops) == begins(hall, stops, piece + 1)[hall[2]][piece]


def ended_behind(hall, arc, piece, ended, stopping):
    """The dict of those of the stopping pieces that are ENDED up to a piece on all WAYS that come to it by this ARC.

    Ended has such dicts, whose values mean nothing, of all pieces from which ARCS lead to it.
    """
    ahead = (start_of(hall, arc), piece - growth_of(hall, arc))
    more = [ahead] if does_end(arc) and ahead in stopping else []
    return {key: True for key in list(ended[ahead]) + more}


def ended_by_all(hall, stops, piece):
    """The dict of those of the pieces with STOPS that all CHAINS of a piece of the FILLER END."""
    run = begins(hall, stops, piece + 1)
    order = rise_order(hall)
    stopping = {(name, at): True for name, at, _ in stops}
    ended = {}
    for at in range(piece + 1):
        for name in order:
            arcs = tight_arcs(hall, stops, run, name, at)
            rows = [ended_behind(hall, arc, at, ended, stopping) for arc in arcs]
            ended[name, at] = {key: True for key in (rows[0] if rows else {}) if all([key in row for row in rows])}
    return ended[hall[2], piece]


def needed_stops(hall, stops, piece):
    """The ascending tuple of the keys of STOPS such that with one tick less the FILLER begins a piece one earlier."""
    # If all CHAINS END the piece of a key, each of them is shorter then; otherwise one keeps its ticks.
    ended = ended_by_all(hall, stops, piece)
    return tuple([key for key in sorted(stops) if key[:2] in ended])
