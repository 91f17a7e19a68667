"""How much purses let within some pieces, one behind the other, and which purses are just enough.

A WINDOW is a tuple (first, last) of two pieces; all from the one to the other are in it.
"""

from fillerfed.purses import grown


def most_taken(purse, first, last):
    """The most that a TAKEN which is LET by a PURSE can have in a WINDOW."""
    return purse[0] + (last - first) * min(purse)


def window_sums(taken):
    """The list of tuples (first, last, sum), one for each WINDOW that begins and ends where something is taken.

    A wider one with no more in it lets no less: if a TAKEN has too much in some WINDOW, it has so in one of these.
    """
    pieces = sorted(taken)
    found = []
    for at, first in enumerate(pieces):
        ticks = 0
        for last in pieces[at:]:
            ticks += taken[last]
            found.append((first, last, ticks))
    return found


def widest_first(purse, first, over):
    """The least begin of a WINDOW that still has too much, where the one from first has so many ticks over."""
    each = min(purse)
    return max(0, first - (over - 1) // each) if each else 0


def over_window(purse, taken):
    """The least WINDOW in which a TAKEN has more than most_taken, None if there is none."""
    over = [(first, ticks - most_taken(purse, first, last)) for first, last, ticks in window_sums(taken)]
    firsts = [widest_first(purse, first, ticks) for first, ticks in over if ticks > 0]
    if not firsts:
        return None
    least = min(firsts)
    ticks = 0
    for piece in sorted(taken):
        if piece >= least:
            ticks += taken[piece]
            if ticks > most_taken(purse, least, piece):
                return (least, piece)
    return None


def greedy(purse, pieces):
    """The TAKEN by which at each of these pieces all that a PURSE HOLDS there is taken."""
    found = {}
    content = purse[0]
    at = 0
    for piece in pieces:
        content = grown(purse, content, piece - at)
        if content > 0:
            found[piece] = content
        content = 0
        at = piece
    return found


def greedy_sum(purse, pieces):
    """How much is taken by greedy in all."""
    return sum(greedy(purse, pieces).values())


def least_size(back, taken):
    """The least size from 1 on with which a PURSE with this back lets a TAKEN."""
    # A size below back is there anew at each piece: it is enough if it is for each WINDOW of one piece.
    return max([1] + [ticks - (last - first) * back for first, last, ticks in window_sums(taken)])


def least_back(size, taken):
    """The least back from 0 on with which a PURSE of this size lets a TAKEN, None if there is none."""
    backs = [0]
    for first, last, ticks in window_sums(taken):
        if ticks > most_taken((size, size), first, last):
            return None
        if last > first:
            backs.append(-((size - ticks) // (last - first)))
    return max(backs)
