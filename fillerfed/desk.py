"""The desk: commands in words to a hall that is kept."""

from fillerfed.booking import least_lots
from fillerfed.errors import Dead, NoCommand, Nothing, TooMany, Wrong
from fillerfed.fractions import fraction_text
from fillerfed.halltexts import belt_told, machine_told, show_hall
from fillerfed.kept import Kept
from fillerfed.paces import worst_pace
from fillerfed.stoptexts import show_stops, way_text
from fillerfed.walkstops import told_wait
from fillerfed.words import lines_of, number_told, purse_told

MOST_PIECES = 400


def change_done(kept, words):
    """Whether the CHANGE that words tell has been done, None if they tell none. What is not as described is Wrong."""
    match words:
        case ["machine", *told]:
            # A machine may be called belt: only where its last words begin is certain.
            return kept.put_machine(machine_told(told[:-5]), belt_told(told[-4:])) if told[-5:-4] == ["belt"] else None
        case ["drop", name]:
            return kept.take_machine(name)
        case ["time", name, time]:
            return kept.put_time(name, number_told(time))
        case ["purses", name, *purses]:
            return kept.put_purses(name, tuple([purse_told(word) for word in purses]))
        case ["filler", name]:
            return kept.put_filler(name)
        case ["belt", *told]:
            return kept.put_belt(belt_told(told))
        case ["cut", index]:
            return kept.take_belt(number_told(index))
        case ["room", index, room, first]:
            return kept.put_room(number_told(index), number_told(room), number_told(first))
        case ["stop", name, piece, purse, ticks]:
            return kept.put_stop(name, number_told(piece), number_told(purse), number_told(ticks))
    return None


def change_answer(kept, words):
    """What is answered to a CHANGE, None if words tell none."""
    try:
        done = change_done(kept, words)
    except Wrong:
        raise NoCommand() from None
    if done is None:
        return None
    return ["done"] if done else ["no"]


def number_to(word, most):
    """The number from 0 to most that a word tells."""
    number = number_told(word)
    if number is None or number > most:
        raise NoCommand()
    return number


def undone(kept):
    """What is answered to `undo`."""
    try:
        kept.undo()
    except Nothing:
        return ["nothing"]
    return ["done"]


def verdict_lines(kept):
    """What is answered to `verdict`."""
    kind, told = kept.verdict()
    if kind == "holds":
        return ["holds"]
    piece, ticks = told_wait(kept.hall(), told)
    return [f"waits {way_text(told)}", f"{piece} {ticks}"]


def wait_lines(kept, many):
    """What is answered to `waits N`."""
    return [f"{piece} {ticks}" for piece, ticks in enumerate(kept.waits(many)) if ticks > 0]


def loss_lines(kept, piece):
    """What is answered to `lost PIECE`."""
    losses, rest = kept.lost(piece)
    return [f"{name} {losses[name]}" for name in losses] + [f"rest {rest}"]


def lot_lines(kept, piece):
    """What is answered to `blame PIECE`."""
    return [" ".join(lot) if lot else "nobody" for lot in least_lots(kept.hall(), kept.stops(), piece)]


def told_answer(kept, words):
    """What is answered to a COMMAND that is no CHANGE."""
    match words:
        case ["undo"]:
            return undone(kept)
        case ["hall"]:
            return lines_of(show_hall(kept.hall()))
        case ["stops"]:
            return lines_of(show_stops(kept.stops())) if kept.stops() else []
        case ["verdict"]:
            return verdict_lines(kept)
        case ["waits", many]:
            return wait_lines(kept, number_to(many, MOST_PIECES))
        case ["lost", piece]:
            return loss_lines(kept, number_to(piece, MOST_PIECES - 1))
        case ["blame", piece]:
            return lot_lines(kept, number_to(piece, MOST_PIECES - 1))
        case ["pace"]:
            return [fraction_text(worst_pace(kept.hall()))]
    raise NoCommand()


class Desk:
    """A Kept of a HALL, and the COMMANDS by which it is changed and asked."""

    def __init__(self, hall):
        self._kept = Kept(hall)

    def __eq__(self, other):
        return isinstance(other, Desk) and self._kept == other._kept

    def execute(self, line):
        """Does one COMMAND and returns the list of the lines that are answered."""
        if type(line) is not str:
            raise Wrong(0)
        # With split() more blanks than one would still be a COMMAND.
        words = line.split(" ")
        answer = change_answer(self._kept, words)
        if answer is not None:
            return answer
        try:
            return told_answer(self._kept, words)
        except Dead:
            return ["dead"]
        except TooMany:
            return ["many"]

    def kept(self):
        """An independent Kept in the same state."""
        return self._kept.twin()

    def twin(self):
        """An independent Desk in the same state."""
        other = Desk(self._kept.hall())
        other._kept = self._kept.twin()
        return other
