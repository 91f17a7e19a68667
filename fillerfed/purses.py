"""What purses hold, and what they let."""

from fillerfed.errors import TooMany
from fillerfed.halls import purse_places, purses_of

MOST_LET = 5000


def grown(purse, content, many):
    """What a PURSE with this content HOLDS so many pieces later, if nothing is taken."""
    size, back = purse
    return min(size, content + back * many)


def taken_of(stops, name, index):
    """The TAKEN of the PURSE with this index of the machine with this name."""
    return {key[1]: stops[key] for key in sorted(stops) if (key[0], key[2]) == (name, index)}


def held(purse, taken, piece):
    """What a PURSE HOLDS at a piece, of a TAKEN that is LET at all pieces ahead of it."""
    content = purse[0]
    at = 0
    for one in sorted(taken):
        if one >= piece:
            break
        content = grown(purse, content, one - at) - taken[one]
        at = one
    return grown(purse, content, piece - at)


def first_over(purse, taken):
    """The least piece at which more is taken than a PURSE HOLDS, None if there is none."""
    content = purse[0]
    at = 0
    for piece in sorted(taken):
        content = grown(purse, content, piece - at) - taken[piece]
        if content < 0:
            return piece
        at = piece
    return None


def is_let(purse, taken):
    """Whether a TAKEN is LET by a PURSE."""
    return first_over(purse, taken) is None


def first_not_let(hall, stops):
    """The least tuple (name, piece, index) at which a PURSE first HOLDS less than is taken, None if STOPS are LET."""
    found = []
    for name, index in purse_places(hall):
        piece = first_over(purses_of(hall, name)[index], taken_of(stops, name, index))
        if piece is not None:
            found.append((name, piece, index))
    return min(found) if found else None


def are_let(hall, stops):
    """Whether STOPS of a HALL are LET."""
    return first_not_let(hall, stops) is None


def contents_of(purse, taken, many):
    """The tuple of what a PURSE HOLDS at each of many pieces, of a TAKEN that is LET."""
    found = []
    content = purse[0]
    for piece in range(many):
        found.append(content)
        content = grown(purse, content - taken.get(piece, 0), 1)
    return tuple(found)


def holdings(hall, stops, many):
    """What each PURSE HOLDS at each of many pieces, in tuples by purse_places, of STOPS that are LET."""
    found = {}
    for name, index in purse_places(hall):
        found[name, index] = contents_of(purses_of(hall, name)[index], taken_of(stops, name, index), many)
    return found


def all_let(purse, many):
    """The list of all TAKEN that are LET by a PURSE, at pieces below many, by what is taken at one after the other."""
    rows = [({}, purse[0])]
    for piece in range(many):
        # Each row goes on with nothing taken, if with nothing else: there will never be fewer.
        if sum([content + 1 for _, content in rows]) > MOST_LET:
            raise TooMany(MOST_LET)
        later = []
        for taken, content in rows:
            later.append((taken, grown(purse, content, 1)))
            for ticks in range(1, content + 1):
                later.append(({**taken, piece: ticks}, grown(purse, content - ticks, 1)))
        rows = later
    return [taken for taken, _ in rows]
