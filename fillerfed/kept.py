"""Halls that are kept under changes, with stops, and what is told of them."""

from fillerfed.blame import chain
from fillerfed.booking import booked
from fillerfed.books import word_of
from fillerfed.errors import Nothing, Wrong
from fillerfed.forms import are_purses, is_belt, is_count, is_hall, is_integer
from fillerfed.forms import is_machine, is_name, is_positive, is_stops
from fillerfed.halls import names_of, with_belt, with_purses, with_time
from fillerfed.runs import waits
from fillerfed.verdicts import verdict


def check(*truths):
    """Raises Wrong for the place of the first one that is not True."""
    for place, truth in enumerate(truths):
        if not truth:
            raise Wrong(place)


class Kept:
    """A HALL and STOPS of it, which change by the calls that put, take and undo."""

    def __init__(self, hall):
        check(is_hall(hall))
        # What is kept is never changed itself, others take its place: so it may be kept for undo, too, and by a twin.
        self._hall = hall
        self._stops = {}
        self._before = []

    def __eq__(self, other):
        return isinstance(other, Kept) and self._hall == other._hall and self._stops == other._stops

    def _change(self, hall, stops):
        """Does a CHANGE, if a HALL comes of it, and returns whether it is done; STOPS that are none of that HALL go."""
        if not is_hall(hall):
            return False
        self._before.append((self._hall, self._stops))
        self._hall = hall
        self._stops = {key: stops[key] for key in sorted(stops) if is_stops(hall, {key: stops[key]})}
        return True

    def _has(self, name):
        """Whether there is a machine with this name."""
        return name in names_of(self._hall)

    def put_machine(self, machine, belt):
        """Puts a MACHINE, and a BELT that joins it to one that is there, behind the others."""
        check(is_machine(machine), is_belt(belt))
        machines, belts, filler = self._hall
        # With a name that is there, or joined to none that is, no HALL comes of it.
        return self._change((tuple(sorted(machines + (machine,))), belts + (belt,), filler), self._stops)

    def take_machine(self, name):
        """Takes a machine away, with all its belts."""
        check(is_name(name))
        machines, belts, filler = self._hall
        rest = tuple([belt for belt in belts if name not in belt[:2]])
        left = tuple([machine for machine in machines if machine[0] != name])
        return self._has(name) and self._change((left, rest, filler), self._stops)

    def put_time(self, name, time):
        """Puts the time of a machine."""
        check(is_name(name), is_positive(time))
        return self._has(name) and self._change(with_time(self._hall, name, time), self._stops)

    def put_purses(self, name, purses):
        """Puts the PURSES of a machine."""
        check(is_name(name), are_purses(purses))
        if not self._has(name) or name == self._hall[2]:
            return False
        return self._change(with_purses(self._hall, name, purses), self._stops)

    def put_filler(self, name):
        """Makes a machine the FILLER."""
        check(is_name(name))
        machines, belts, _ = self._hall
        # With a machine that is not there, or has PURSES, no HALL comes of it.
        return self._change((machines, belts, name), self._stops)

    def put_belt(self, belt):
        """Puts a BELT behind the others."""
        check(is_belt(belt))
        machines, belts, filler = self._hall
        return self._change((machines, belts + (belt,), filler), self._stops)

    def take_belt(self, index):
        """Takes the BELT with this index away."""
        check(is_integer(index))
        machines, belts, filler = self._hall
        if not 0 <= index < len(belts):
            return False
        return self._change((machines, belts[:index] + belts[index + 1:], filler), self._stops)

    def put_room(self, index, room, first):
        """Puts the room and the first of the BELT with this index."""
        # A belt between any two machines tells whether first is one for this room.
        check(is_integer(index), is_positive(room), is_belt(("a", "b", room, first)))
        if not 0 <= index < len(self._hall[1]):
            return False
        return self._change(with_belt(self._hall, index, room, first), self._stops)

    def put_stop(self, name, piece, purse, ticks):
        """Puts how many ticks STOPS tell of a PURSE of a machine at a piece."""
        check(is_name(name), is_count(piece), is_count(purse), is_count(ticks))
        if not is_stops(self._hall, {(name, piece, purse): 1}):
            return False
        stops = {key: self._stops[key] for key in self._stops if key != (name, piece, purse)}
        if ticks > 0:
            stops[name, piece, purse] = ticks
        return self._change(self._hall, stops)

    def hall(self):
        """The HALL that is kept."""
        return self._hall

    def stops(self):
        """The STOPS that are kept."""
        return {key: self._stops[key] for key in self._stops}

    def verdict(self):
        """The VERDICT of the HALL."""
        return verdict(self._hall)

    def waits(self, many):
        """The tuple of what the FILLER WAITS at each of many pieces."""
        return waits(self._hall, self._stops, many)

    def lost(self, piece):
        """The tuple (losses, rest) of what is booked of a CHAIN of a piece."""
        return booked(self._hall, self._stops, chain(self._hall, self._stops, piece))

    def undo(self):
        """Takes back the last CHANGE that has been done and not been taken back yet."""
        if not self._before:
            raise Nothing()
        self._hall, self._stops = self._before.pop()

    def turned(self):
        """The tuple of word_of ahead of this CHANGE and of word_of now, None if there is none."""
        if not self._before:
            return None
        return (word_of(self._before[-1][0]), word_of(self._hall))

    def twin(self):
        """An independent Kept in the same state."""
        other = Kept(self._hall)
        other._stops = self._stops
        other._before = list(self._before)
        return other
