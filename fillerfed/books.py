"""Books: halls with what shows whether they hold."""

from fillerfed.errors import Dead, TooMany
from fillerfed.forms import is_hall, is_tuple_of
from fillerfed.verdicts import is_verdict, verdict


def book_of(hall):
    """A BOOK (hall, verdict) of a LIVE HALL."""
    return (hall, verdict(hall))


def is_book(thing):
    """Whether a value is a BOOK."""
    return is_tuple_of(thing, 2) and is_hall(thing[0]) and is_verdict(thing[0], thing[1])


def word_of(hall):
    """The kind of the VERDICT of a HALL, "dead" if it is not LIVE, "many" if it has too many STATES."""
    try:
        return verdict(hall)[0]
    except Dead:
        return "dead"
    except TooMany:
        return "many"
