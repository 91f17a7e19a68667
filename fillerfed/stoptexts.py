"""Texts of stops and of ways."""

from fillerfed.errors import NoText, Wrong
from fillerfed.forms import is_arc, is_hall, is_stops
from fillerfed.words import number_told, told_lines, words_of


def show_stops(stops):
    """The text of STOPS, in the order of their keys."""
    return "\n".join([f"{name} {piece} {purse} {stops[name, piece, purse]}" for name, piece, purse in sorted(stops)])


def way_text(way):
    """The words of a WAY: its begin, and for each ARC `next`, or `down` or `up` and the index of the belt."""
    begin, arcs = way
    return " ".join([begin] + ["next" if kind == "next" else f"{kind} {where}" for kind, where in arcs])


def check_arguments(hall, text):
    """Raises Wrong for the first one that is not as it has to be, a HALL and a string."""
    if not is_hall(hall):
        raise Wrong(0)
    if type(text) is not str:
        raise Wrong(1)


def read_stops(hall, text):
    """The STOPS of a HALL whose lines a text has."""
    check_arguments(hall, text)
    told = {}
    for line, words in told_lines(text):
        if len(words) != 4:
            raise NoText(line)
        key = (words[0], number_told(words[1]), number_told(words[2]))
        ticks = number_told(words[3])
        if key in told or not is_stops(hall, {key: ticks}):
            raise NoText(line)
        told[key] = ticks
    return {key: told[key] for key in sorted(told)}


def arc_words(words):
    """The words of a WAY behind its begin, as a list of lists, one for each ARC."""
    found = []
    at = 0
    while at < len(words):
        many = 1 if words[at] == "next" else 2
        found.append(words[at:at + many])
        at += many
    return found


def arc_told(here, words):
    """The ARC that words tell, if one is at this machine; what tells none gives what is no ARC of any HALL."""
    if words == ["next"]:
        return ("next", here)
    return (words[0], number_told(words[1])) if len(words) == 2 else None


def led_to(hall, here, arc):
    """The name of the machine to which an ARC leads from this one, None if it leads from elsewhere."""
    kind, where = arc
    if kind == "next":
        return here
    start, end, _, _ = hall[1][where]
    if kind == "up":
        start, end = end, start
    return end if start == here else None


def read_way(hall, text):
    """The WAY of a HALL with the words of a text."""
    check_arguments(hall, text)
    words = words_of(text)
    if not words or not is_arc(hall, ("next", words[0])):
        raise NoText(0)
    here = words[0]
    arcs = []
    for group in arc_words(words[1:]):
        arc = arc_told(here, group)
        if not is_arc(hall, arc):
            raise NoText(0)
        here = led_to(hall, here, arc)
        if here is None:
            raise NoText(0)
        arcs.append(arc)
    return (words[0], tuple(arcs))
