"""To which machines a loss of the filler is booked, and without whose stops it would be none."""

from itertools import combinations

from fillerfed.halls import machine_of, pace_of
from fillerfed.runs import waits
from fillerfed.ticks import piece_time
from fillerfed.walks import ended, index_of
from fillerfed.walkstops import ticks_with


def booked(hall, stops, chain):
    """The tuple (losses, rest) of a CHAIN: the ticks of STOPS on it by names of machines, and what was made good."""
    losses = {}
    for name, piece in ended(hall, chain):
        machine = machine_of(hall, name)
        ticks = piece_time(stops, machine, piece) - machine[1]
        if ticks > 0:
            losses[name] = losses.get(name, 0) + ticks
    rest = pace_of(hall) * index_of(hall, chain) - ticks_with(hall, chain, {})
    return ({name: losses[name] for name in sorted(losses)}, rest)


def lost_at(hall, stops, many):
    """How many ticks more the FILLER WAITS than at the piece ahead, by those of many pieces at which it does."""
    ticks = waits(hall, stops, many)
    more = [now - before for before, now in zip((0,) + ticks, ticks)]
    return {piece: one for piece, one in enumerate(more) if one > 0}


def wait_without(hall, stops, piece, lot):
    """What the FILLER WAITS at a piece if all STOPS of the machines of a LOT are left out."""
    return waits(hall, {key: stops[key] for key in stops if key[0] not in lot}, piece + 1)[piece]


def saved(hall, stops, piece, lot):
    """How many ticks less the FILLER WAITS at a piece without the STOPS of a LOT."""
    return wait_without(hall, stops, piece, ()) - wait_without(hall, stops, piece, lot)


def frees(hall, stops, piece, lot):
    """Whether a LOT FREES a piece."""
    return wait_without(hall, stops, piece, lot) == 0


def least_lots(hall, stops, piece):
    """The ascending list of all LOTS that FREE a piece and have no machine that could be left out of them."""
    names = sorted(set([name for name, _, _ in stops]))
    found = []
    for many in range(len(names) + 1):
        for lot in combinations(names, many):
            # What FREES the piece still does so with more machines: only the least LOTS have none of those found.
            if not any([all([name in lot for name in less]) for less in found]) and frees(hall, stops, piece, lot):
                found.append(lot)
    return sorted(found)
