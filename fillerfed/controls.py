"""Runs in which machines wait: what holds them back, and how late they may be.

FLOORS are a dict from tuples (name, piece) to ticks ahead of which these pieces are not begun. A CARD is a tuple
(ahead, behind, many): at most so many pieces are between the begin at ahead and the END at behind.
"""

from fillerfed.forms import is_count
from fillerfed.halls import machine_of, names_of
from fillerfed.rings import rise_order
from fillerfed.runs import asked, begins, earliest_run, filler_waits, leads_of
from fillerfed.ticks import piece_time


def is_kept(hall, stops, run, lead):
    """Whether no piece of a RUN is begun ahead of what a LEAD asks."""
    _, end, growth, _ = lead
    return all([run[end][piece] >= asked(hall, stops, run, lead, piece) for piece in range(growth, len(run[end]))])


def are_rows(thing):
    """Whether a value is a list of tuples with as many integers from 0 on each."""
    if not all([type(row) is tuple for row in thing]):
        return False
    return all([len(row) == len(thing[0]) and all([is_count(tick) for tick in row]) for row in thing])


def is_run(hall, stops, thing):
    """Whether a value is a RUN of a LIVE HALL with STOPS, of whatever number of pieces."""
    names = names_of(hall)
    if type(thing) is not dict or len(thing) != len(names) or not all([name in thing for name in names]):
        return False
    if not are_rows([thing[name] for name in names]):
        return False
    return all([is_kept(hall, stops, thing, lead) for lead in leads_of(hall)])


def waits_in(hall, run):
    """The tuple of how many ticks the FILLER WAITS at each piece of a RUN."""
    return filler_waits(hall, run)


def is_earlier(one, other):
    """Whether no piece is begun later in one RUN than in the other."""
    return all([tick <= later for name in one for tick, later in zip(one[name], other[name])])


def greatest_run(one, other):
    """The RUN that has for each piece the greater one of both begins."""
    return {name: tuple([max(ticks) for ticks in zip(one[name], other[name])]) for name in sorted(one)}


def least_run(one, other):
    """The RUN that has for each piece the lesser one of both begins."""
    return {name: tuple([min(ticks) for ticks in zip(one[name], other[name])]) for name in sorted(one)}


def held_back(hall, stops, floors, many):
    """The RUN of many pieces in which each begins as soon as it can, but not ahead of its tick in FLOORS."""
    return earliest_run(hall, stops, leads_of(hall), floors, many)


def floors_of(run):
    """The FLOORS that a RUN is: all its begins."""
    return {(name, piece): tick for name in sorted(run) for piece, tick in enumerate(run[name])}


def card_lead(card):
    """What a CARD asks of a RUN, as the LEAD that it is."""
    ahead, after, many = card
    return (after, ahead, many, True)


def keeps(hall, stops, run, cards):
    """Whether a RUN KEEPS all CARDS."""
    return all([is_kept(hall, stops, run, card_lead(card)) for card in cards])


def carded(hall, stops, cards, many):
    """The RUN of many pieces in which each begins as soon as it can if all CARDS are kept."""
    return earliest_run(hall, stops, leads_of(hall) + [card_lead(card) for card in cards], {}, many)


def sums_ahead(hall, stops, piece):
    """The greatest sums of times and STOPS that are ENDED along ARCS to a piece of the FILLER, by (name, piece)."""
    # From a piece one comes to such with a greater index, or with the same one and a greater height.
    order = rise_order(hall)[::-1]
    leads = leads_of(hall)
    found = {(hall[2], piece): 0}
    for at in reversed(range(piece + 1)):
        for name in order:
            time = piece_time(stops, machine_of(hall, name), at)
            sums = []
            for start, end, growth, ends_it in leads:
                if start == name and (end, at + growth) in found:
                    sums.append(found[end, at + growth] + (time if ends_it else 0))
            if sums:
                found[name, at] = max(sums)
    return found


def latest(hall, stops, piece):
    """The greatest ticks at which pieces may be begun, by (name, piece), so that this one of the FILLER is not late."""
    tick = begins(hall, stops, piece + 1)[hall[2]][piece]
    sums = sums_ahead(hall, stops, piece)
    return {key: tick - sums[key] for key in sorted(sums)}
