"""Whether a hall holds, whatever stops, and what shows it."""

from fillerfed.forms import is_tuple_of
from fillerfed.rings import is_live
from fillerfed.tables import is_table, searched
from fillerfed.walks import is_walk
from fillerfed.walkstops import pays


def paying_walk(hall):
    """A WALK that PAYS, None if the HALL HOLDS."""
    return searched(hall)[1]


def holds(hall):
    """Whether a LIVE HALL HOLDS."""
    return paying_walk(hall) is None


def verdict(hall):
    """The VERDICT ("holds", table) or ("waits", walk) of a LIVE HALL."""
    table, walk = searched(hall)
    return ("holds", table) if walk is None else ("waits", walk)


def is_verdict(hall, thing):
    """Whether a value is a VERDICT of a HALL."""
    if not is_tuple_of(thing, 2) or type(thing[0]) is not str or not is_live(hall):
        return False
    kind, told = thing
    if kind == "holds":
        return is_table(hall, told)
    return kind == "waits" and is_walk(hall, told) and pays(hall, told)
