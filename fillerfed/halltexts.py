"""Texts of halls."""

from fillerfed.errors import NoText, Wrong
from fillerfed.forms import is_belt, is_hall, is_machine, is_name
from fillerfed.words import lines_of, number_told, purse_told, purse_word, told_lines


def machine_line(machine):
    """The line of a MACHINE."""
    name, time, purses = machine
    return " ".join(["machine", name, str(time)] + [purse_word(purse) for purse in purses])


def belt_line(belt):
    """The line of a BELT."""
    start, end, room, first = belt
    return f"belt {start} {end} {room} {first}"


def show_hall(hall):
    """The text of a HALL."""
    machines, belts, filler = hall
    lines = [machine_line(machine) for machine in machines] + [belt_line(belt) for belt in belts]
    return "\n".join(lines + [f"filler {filler}"])


def machine_told(words):
    """The MACHINE of the words behind `machine`, None if they tell none."""
    if len(words) < 2:
        return None
    machine = (words[0], number_told(words[1]), tuple([purse_told(word) for word in words[2:]]))
    return machine if is_machine(machine) else None


def belt_told(words):
    """The BELT of the words behind `belt`, None if they tell none."""
    if len(words) != 4:
        return None
    belt = (words[0], words[1], number_told(words[2]), number_told(words[3]))
    return belt if is_belt(belt) else None


def filler_told(words):
    """The NAME of the words behind `filler`, None if they tell none."""
    return words[0] if len(words) == 1 and is_name(words[0]) else None


def part_told(words):
    """The MACHINE, BELT or NAME that the words of a line tell, None if they tell none."""
    if words[0] == "machine":
        return machine_told(words[1:])
    if words[0] == "belt":
        return belt_told(words[1:])
    if words[0] == "filler":
        return filler_told(words[1:])
    return None


def parts_told(text):
    """The list of tuples (line, kind, part), one for each line of a text that is not skipped.

    Raises NoText for the first line that is bad whatever comes behind it.
    """
    parts = []
    machines = {}
    has_filler = False
    for line, words in told_lines(text):
        kind = words[0]
        part = part_told(words)
        if part is None:
            raise NoText(line)
        if (kind == "machine" and part[0] in machines) or (kind == "filler" and has_filler):
            raise NoText(line)
        if kind == "machine":
            machines[part[0]] = True
        has_filler = has_filler or kind == "filler"
        parts.append((line, kind, part))
    return parts


def names_in(kind, part):
    """The names by which a belt's or the filler's line asks for machines."""
    if kind == "belt":
        return part[:2]
    if kind == "filler":
        return (part,)
    return ()


def check_names(parts, machines):
    """Raises NoText for the first line that names a machine which is not told."""
    for line, kind, part in parts:
        if not all([name in machines for name in names_in(kind, part)]):
            raise NoText(line)


def read_hall(text):
    """The HALL whose lines a text has."""
    if type(text) is not str:
        raise Wrong(0)
    parts = parts_told(text)
    machines = {part[0]: part for _, kind, part in parts if kind == "machine"}
    check_names(parts, machines)
    belts = tuple([part for _, kind, part in parts if kind == "belt"])
    fillers = [part for _, kind, part in parts if kind == "filler"]
    hall = (tuple([machines[name] for name in sorted(machines)]), belts, fillers[0] if fillers else None)
    if not is_hall(hall):
        raise NoText(len(lines_of(text)))
    return hall
