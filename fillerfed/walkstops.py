"""What a way takes: its stops, its ticks and its gain."""

from fillerfed.halls import machine_of, pace_of, purse_places, purses_of
from fillerfed.ticks import piece_time
from fillerfed.walks import ended, index_of
from fillerfed.windows import greedy


def stops_of(hall, way):
    """The STOPS of a WAY: at each piece that it ENDS each PURSE gives all that it HOLDS."""
    pieces = {}
    for name, piece in ended(hall, way):
        pieces.setdefault(name, []).append(piece)
    found = {}
    for name, index in purse_places(hall):
        taken = greedy(purses_of(hall, name)[index], tuple(pieces.get(name, ())))
        for piece, ticks in taken.items():
            found[name, piece, index] = ticks
    return {key: found[key] for key in sorted(found)}


def ticks_with(hall, way, stops):
    """The times of all pieces that a WAY ENDS, and the ticks of STOPS at them, together."""
    return sum([piece_time(stops, machine_of(hall, name), piece) for name, piece in ended(hall, way)])


def ticks_of(hall, way):
    """The TICKS of a WAY: as ticks_with, with its own STOPS."""
    return ticks_with(hall, way, stops_of(hall, way))


def gain_of(hall, way):
    """The GAIN of a WAY: its TICKS less what the FILLER makes good on the way."""
    return ticks_of(hall, way) - pace_of(hall) * index_of(hall, way)


def pays(hall, walk):
    """Whether a WALK PAYS."""
    return gain_of(hall, walk) > 0


def told_wait(hall, walk):
    """The tuple of the last INDEX of a WALK and its GAIN, None if it does not PAY."""
    gain = gain_of(hall, walk)
    return (index_of(hall, walk), gain) if gain > 0 else None
