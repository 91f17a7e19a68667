"""Runs in which each machine begins as soon as it can, found by what each begin waits for.

A LEAD is a tuple (start, end, growth, ends), names of two machines, an integer and a truth: piece j of end, j from
growth on, is begun not before piece j - growth of start, if ends is True not before the END of this piece.
"""

from fillerfed.arcs import arcs_of, arcs_to, does_end, end_of, growth_of, start_of
from fillerfed.halls import machine_of, names_of, pace_of
from fillerfed.rings import rise_order
from fillerfed.ticks import piece_time


def lead_of(hall, arc):
    """The LEAD that an ARC is."""
    return (start_of(hall, arc), end_of(hall, arc), growth_of(hall, arc), does_end(arc))


def leads_of(hall):
    """The list of the LEADS that a RUN of a HALL has to keep, one for each ARC."""
    return [lead_of(hall, arc) for arc in arcs_of(hall)]


def end_at(hall, stops, run, name, piece):
    """The tick at which a piece ENDS in a RUN."""
    return run[name][piece] + piece_time(stops, machine_of(hall, name), piece)


def asked(hall, stops, run, lead, piece):
    """The tick ahead of which a LEAD does not let a piece be begun, None if it asks nothing of it."""
    start, _, growth, ends_it = lead
    ahead = piece - growth
    if ahead < 0:
        return None
    return end_at(hall, stops, run, start, ahead) if ends_it else run[start][ahead]


def earliest_run(hall, stops, leads, floors, many):
    """The RUN of many pieces of which each begin is the least that LEADS let, and that is not ahead of its FLOOR.

    The LEADS are those of the HALL, and others with a growth from 1 on.
    """
    # What a piece waits for has a lesser index, or the same one and a lesser height: it is always found already.
    order = rise_order(hall)
    leads_to = {name: [lead for lead in leads if lead[1] == name] for name in order}
    run = {name: [] for name in names_of(hall)}
    for piece in range(many):
        for name in order:
            ticks = [asked(hall, stops, run, lead, piece) for lead in leads_to[name]]
            run[name].append(max([floors.get((name, piece), 0)] + [tick for tick in ticks if tick is not None]))
    return {name: tuple(run[name]) for name in run}


def begins(hall, stops, many):
    """The RUN of many pieces LEFT ALONE."""
    return earliest_run(hall, stops, leads_of(hall), {}, many)


def ends(hall, stops, many):
    """The ENDS of the first many pieces in the RUN LEFT ALONE, in tuples by the names of the machines."""
    run = begins(hall, stops, many)
    return {name: tuple([end_at(hall, stops, run, name, piece) for piece in range(many)]) for name in run}


def filler_waits(hall, run):
    """The tuple of how many ticks the FILLER WAITS at each piece of a RUN."""
    pace = pace_of(hall)
    return tuple([tick - piece * pace for piece, tick in enumerate(run[hall[2]])])


def waits(hall, stops, many):
    """The tuple of how many ticks the FILLER WAITS at each of many pieces in the RUN LEFT ALONE."""
    return filler_waits(hall, begins(hall, stops, many))


def first_wait(hall, stops, many):
    """The least piece below many at which the FILLER WAITS in the RUN LEFT ALONE, None if there is none."""
    for piece, ticks in enumerate(waits(hall, stops, many)):
        if ticks > 0:
            return piece
    return None


def tight_arcs(hall, stops, run, name, piece):
    """The tuple of those ARCS to a machine that do not let a piece of it be begun earlier than it is in a RUN."""
    tick = run[name][piece]
    return tuple([arc for arc in arcs_to(hall, name) if asked(hall, stops, run, lead_of(hall, arc), piece) == tick])
