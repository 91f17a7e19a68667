"""Halls and other values that several tests use."""

import copy
import random

from fillerfed.errors import Dead, NoMachine, Nothing, Wrong
from fillerfed.rings import is_live

NAMES = ("belt", "cap", "down", "fill", "filler", "machine", "next", "up", "wash", "x")

CAP = ("cap", 2, ((2, 1),))
FILL = ("fill", 4, ())
WASH = ("wash", 2, ((3, 0), (1, 1)))
HALL = ((CAP, FILL, WASH), (("wash", "fill", 1, 1), ("fill", "cap", 1, 0)), "fill")
LONE = ((FILL,), (), "fill")
DEAD = ((CAP, FILL), (("fill", "cap", 2, 0), ("cap", "fill", 1, 0)), "fill")

# More than 20,000 STATES: what cap and box HOLD grows piece by piece as long as one stays at wash.
WIDE = ((("box", 1, ((99, 1),)), ("cap", 1, ((100, 1),)), ("fill", 9, ()), ("wash", 1, ())),
        (("box", "cap", 1, 1), ("wash", "cap", 1, 1), ("cap", "fill", 1, 1)), "fill")

# Wrong wherever a part of a MACHINE, BELT, HALL, ARC or of STOPS stands.
NEVER_RIGHT = (None, True, False, -1, 1.0, "", "Cap", "a1", "a b", "cap\n", "\n", "a" * 13, "\u00e4", b"cap", [], {}, [1], {1: 2},
               (None,), ([],), 10 ** 40 * -1)


class Odd:
    """An object of a strange class, which is equal to everything."""

    def __eq__(self, other):
        return True

    __hash__ = None


def deep_value():
    """Lists, tuples and dicts in one another, twenty deep."""
    thing = 0
    for depth in range(20):
        thing = ([thing], (thing,), {depth: thing})[depth % 3]
    return thing


def any_values():
    """Values of all kinds, new ones at each call."""
    return [
        None, True, False, 0, 1, -1, 7, 10 ** 40, -10 ** 40, 1.5, float("nan"), "", " ", "a", "cap", "fill", "next",
        "a" * 12, "a" * 13, "A", "a\n", "\n", "#", "~" * 3000, b"", b"a", [], (), {}, set(), frozenset(), [None], (None,),
        (1,), (1, 2), [1, 2], (2, 4), (True, 1), (1, True), (0, 0), (1, 0), (1, -2), (None, 1), ("a", 1), ("a", 1, ()),
        ["a", 1, ()], ("a", "b", 1, 1), ("a", "a", 1, 1), (("a", 1, ()),), ((("a", 1, ()),), (), "a"), (1, 2, 3), (1, 2, 3, 4),
        ([], [], []), ({}, {}, {}), ([], {}), ((), (), ()), ((), (), ""), ((), (), []), ("next", []), ("next", {}), ("down", []),
        ("up", None), ("next", "fill"), ("down", 0), ("up", 0), (("down", 0),), [("down", 0)], {"a": 1}, {("a", 0, 0): 1},
        {None: None}, {("fill", 0, 0): 1}, {("cap", 0, 0): 1}, {"cap": 1, "fill": 2, "wash": 3}, {1: 1, "a": 2, (1,): 3},
        deep_value(), tuple(range(3000)), list(range(3000)), {at: at for at in range(3000)}, object(), Odd(), (Odd(), Odd()),
        (Odd(), 0), (Odd(), 1, ()), ((), (), Odd()), (Odd(), Odd(), Odd(), Odd()), len, Wrong, Wrong(0), Dead(("down", 0)),
        NoMachine("a"), Nothing(), HALL, LONE, DEAD, list(HALL), HALL[0], HALL[1], CAP, range(3), (x for x in ()),
    ]


def frozen(thing):
    """What a value looks like, kinds and orders included."""
    if type(thing) in (list, tuple):
        return (type(thing).__name__, [frozen(part) for part in thing])
    if type(thing) is dict:
        return ("dict", [(frozen(key), frozen(worth)) for key, worth in thing.items()])
    return (type(thing).__name__, repr(thing))


def exchanged(thing, others=NEVER_RIGHT):
    """All values that come from one by exchanging one part, or by a list in the place of a tuple."""
    found = list(others)
    if type(thing) is tuple:
        found.append(list(thing))
        for at, part in enumerate(thing):
            found.extend(thing[:at] + (other,) + thing[at + 1:] for other in exchanged(part, others))
    return found


def some_name(dice, names):
    """A name that is none of these, often one that is a word of the texts, too."""
    while True:
        name = dice.choice(NAMES) if dice.random() < 0.5 else "".join(dice.choice("abz") for _ in range(dice.randint(1, 4)))
        if name not in names:
            return name


def some_belt(dice, start, end, most):
    """A BELT between two machines, whichever way."""
    room = dice.randint(1, most)
    first = dice.choice((0, room, dice.randint(0, room)))
    if dice.random() < 0.5:
        start, end = end, start
    return (start, end, room, first)


def some_purses(dice):
    """From none to three PURSES."""
    return tuple((dice.randint(1, 5), dice.randint(0, 3)) for _ in range(dice.choice((0, 1, 1, 2, 3))))


def some_hall(dice, many, extra=3, most=3):
    """A HALL of so many machines, LIVE or not, with up to so many BELTS beyond those that join it."""
    names = []
    belts = []
    for at in range(many):
        name = some_name(dice, names)
        if at:
            belts.append(some_belt(dice, name, dice.choice(names), most))
        names.append(name)
    for _ in range(dice.randint(0, extra) if many > 1 else 0):
        one, other = dice.sample(names, 2)
        belts.append(some_belt(dice, one, other, most))
    dice.shuffle(belts)
    filler = dice.choice(names)
    machines = [(name, dice.randint(1, 6), () if name == filler else some_purses(dice)) for name in sorted(names)]
    return (tuple(machines), tuple(belts), filler)


def some_halls(seed, rounds=40):
    """HALLS of one to eight machines, LIVE or not, the same at each call."""
    dice = random.Random(seed)
    return [some_hall(dice, 1 + at % 8) for at in range(rounds)]


def some_stops(dice, hall, pieces=12):
    """STOPS of a HALL, LET or not, whose keys stand in any order."""
    places = [(name, index) for name, _, purses in hall[0] for index in range(len(purses))]
    stops = {}
    for _ in range(dice.randint(0, 8) if places else 0):
        name, index = dice.choice(places)
        stops[(name, dice.randrange(pieces), index)] = dice.randint(1, 7)
    return stops


def live_halls(seed, rounds, most_machines=8):
    """LIVE ones of some HALLS, with STOPS of each, LET or not."""
    dice = random.Random(seed)
    drawn = [some_hall(dice, 1 + at % most_machines) for at in range(rounds)]
    return [(hall, some_stops(dice, hall)) for hall in drawn if is_live(hall)]


def let_stops(dice, hall, pieces=12):
    """STOPS of a HALL that are LET, often all that a PURSE HOLDS, whose keys stand in any order."""
    stops = {}
    for name, _, purses in hall[0]:
        for index, (size, back) in enumerate(purses):
            content = size
            for piece in range(pieces):
                taken = dice.choice((0, 0, content, dice.randint(0, content)))
                if taken:
                    stops[(name, piece, index)] = taken
                content = min(size, content - taken + back)
    keys = list(stops)
    dice.shuffle(keys)
    return {key: stops[key] for key in keys}


def drawn_tree(dice, many, line=False):
    """A TREE of so many machines, each with its belt to one that has been drawn ahead of it; to the last one in a LINE."""
    names = dice.sample(["a", "b", "cap", "d", "fill", "g", "wash", "zz"], many)
    belts = []
    for at in range(1, many):
        room = dice.randint(1, 4)
        belts.append((names[at], names[at - 1] if line else dice.choice(names[:at]), room, room))
    dice.shuffle(belts)
    machines = [(name, dice.randint(1, 6), () if name == names[0] else some_purses(dice)) for name in sorted(names)]
    return (tuple(machines), tuple(belts), names[0])


def drawn_trees(seed):
    """TREES of one to eight machines; every second one is a LINE."""
    dice = random.Random(seed)
    return [drawn_tree(dice, 1 + at % 8, at // 8 % 2 == 0) for at in range(80)]


def own_belts_home(hall, name):
    """The indexes of the belts that lead on from a machine to the FILLER."""
    found = []
    while name != hall[2]:
        index = [at for at, belt in enumerate(hall[1]) if belt[0] == name][0]
        found.append(index)
        name = hall[1][index][1]
    return found


def own_contents(purse, taken, many):
    """The tuple of what a PURSE HOLDS at each of many pieces, by the words of the definition."""
    size, back = purse
    row = [size]
    for piece in range(many):
        row.append(min(size, row[-1] - taken.get(piece, 0) + back))
    return tuple(row[:many])


def some_taken(dice, purse, pieces, let):
    """A TAKEN at pieces below a number, in any order; LET or not, if it need not be."""
    taken = {}
    for piece in range(pieces):
        content = max(0, own_contents(purse, taken, pieces)[piece])
        ticks = dice.choice((0, 0, content, dice.randint(0, content)))
        if not let and dice.random() < 0.2:
            ticks += 1
        if ticks:
            taken[piece] = ticks
    keys = list(taken)
    dice.shuffle(keys)
    return {key: taken[key] for key in keys}


def leads(hall):
    """The rows (arc, start, end, growth) of a HALL, in the order of arcs_of."""
    rows = [(("next", name), name, name, 1) for name, _, _ in hall[0]]
    for index, (start, end, room, first) in enumerate(hall[1]):
        rows.append((("down", index), start, end, first))
        rows.append((("up", index), end, start, room - first))
    return rows


def drawn_way(dice, hall, many, begin=None):
    """A WAY of so many ARCS, drawn one by one."""
    here = begin = begin or dice.choice(hall[0])[0]
    arcs = []
    for _ in range(many):
        arc, _, here, _ = dice.choice([row for row in leads(hall) if row[1] == here])
        arcs.append(arc)
    return (begin, tuple(arcs))


def drawn_walks(dice, hall, rounds, most=40):
    """Some WALKS, each drawn ARC by ARC till it comes to the FILLER, if it does soon enough."""
    found = []
    for _ in range(rounds):
        begin = here = dice.choice(hall[0])[0]
        arcs = []
        while len(arcs) < most and (not arcs or here != hall[2]):
            arc, _, here, _ = dice.choice([row for row in leads(hall) if row[1] == here])
            arcs.append(arc)
        if here == hall[2]:
            found.append((begin, tuple(arcs)))
    return found


def time_at(hall, stops, name, piece):
    """The time of a machine and the STOPS at a piece of it, together."""
    times = {one: time for one, time, _ in hall[0]}
    return times[name] + sum(ticks for (one, at, _), ticks in stops.items() if (one, at) == (name, piece))


def least_begins(hall, stops, many, floors=None, cards=()):
    """The RUN LEFT ALONE, or held back by floors and cards, by raising begins till nothing has to wait more."""
    begins = {name: [(floors or {}).get((name, piece), 0) for piece in range(many)] for name, _, _ in hall[0]}
    times = {name: [time_at(hall, stops, name, piece) for piece in range(many)] for name in begins}
    changed = True
    while changed:
        changed = False
        for piece in range(many):
            floors = [(name, begins[name][piece - 1] + times[name][piece - 1]) for name in begins if piece]
            for start, end, room, first in hall[1]:
                if piece >= first:
                    floors.append((end, begins[start][piece - first] + times[start][piece - first]))
                if piece >= room - first:
                    floors.append((start, begins[end][piece + first - room]))
            for ahead, behind, between in cards:
                if piece >= between:
                    floors.append((ahead, begins[behind][piece - between] + times[behind][piece - between]))
            for name, floor in floors:
                if begins[name][piece] < floor:
                    begins[name][piece] = floor
                    changed = True
    return {name: tuple(row) for name, row in begins.items()}


def own_behind(hall, state, arc):
    """The tuple (state, ticks) behind an ARC, piece by piece for what it grows."""
    name, contents = state
    _, end, growth = [row for row in leads(hall) if row[0] == arc][0][1:]
    ticks = 0
    later = []
    for (one, time, purses), row in zip(hall[0], contents):
        row = list(row)
        if one == name and arc[0] != "up":
            ticks = time + sum(row)
            row = [0 for _ in row]
        for _ in range(growth):
            row = [min(size, content + back) for (size, back), content in zip(purses, row)]
        later.append(tuple(row))
    return (end, tuple(later)), ticks


def own_full(hall, name):
    """The STATE of a machine with all PURSES full."""
    return (name, tuple(tuple(size for size, _ in purses) for _, _, purses in hall[0]))


def own_web(hall, by_filler=False):
    """For each STATE to which one comes the rows (arc, state, ticks) of what is behind it; one goes on by the FILLER, or not."""
    rows = leads(hall)
    web = {}
    pile = [own_full(hall, name) for name, _, _ in hall[0]]
    while pile:
        state = pile.pop()
        if state not in web:
            web[state] = [(arc,) + own_behind(hall, state, arc) for arc, start, _, _ in rows if start == state[0]]
            pile.extend(later for _, later, _ in web[state] if by_filler or later[0] != hall[2])
    return web


def own_gains(hall):
    """The greatest GAINS so far with which one comes to each STATE, by as many passes as there are; None if a WALK PAYS."""
    web = own_web(hall)
    pace = {name: time for name, time, _ in hall[0]}[hall[2]]
    growths = {row[0]: row[3] for row in leads(hall)}
    found = {own_full(hall, name): 0 for name, _, _ in hall[0]}
    for _ in range(len(web) + 1):
        changed = False
        for state in list(found):
            for arc, later, ticks in web[state]:
                gain = found[state] + ticks - pace * growths[arc]
                if later[0] == hall[2]:
                    if gain > 0:
                        return None
                elif later not in found or found[later] < gain:
                    found[later] = gain
                    changed = True
        if not changed:
            return {state: found[state] for state in sorted(found)}
    return None


def with_pace(hall, pace):
    """The HALL whose FILLER has this time."""
    machines, belts, filler = hall
    return (tuple((name, pace if name == filler else time, purses) for name, time, purses in machines), belts, filler)


def least_pace(hall):
    """The least PACE with which a LIVE HALL HOLDS, None if there is none: where the FILLER waits for its first piece."""
    if own_gains(with_pace(hall, 10 ** 6)) is None:
        return None
    pace = 1
    while own_gains(with_pace(hall, pace)) is None:
        pace += 1
    return pace


def own_pace(hall):
    """The time of the FILLER."""
    return {name: time for name, time, _ in hall[0]}[hall[2]]


def paced_halls(seed, rounds, more):
    """LIVE HALLS of up to four machines; the first ones also with the least PACE with which they HOLD, and with one less."""
    found = [hall for hall, _ in live_halls(seed, rounds, 4)]
    for hall in found[:more]:
        least = least_pace(hall)
        if least:
            found.append(with_pace(hall, least))
            found.append(with_pace(hall, max(1, least - 1)))
    return found


def some_floors(dice, hall, pieces):
    """FLOORS of some pieces, in any order."""
    names = [name for name, _, _ in hall[0]]
    return {(dice.choice(names), dice.randrange(pieces)): dice.randint(0, 60) for _ in range(dice.randint(0, 6))}


# Methods of Kept, some of them twice as they are drawn more often.
CHANGES = ("put_belt", "put_belt", "put_filler", "put_machine", "put_machine", "put_purses", "put_room", "put_stop", "put_stop", "put_stop", "put_time",
           "take_belt", "take_machine")


def drawn_change(dice, hall):
    """A CHANGE (word, arguments), most often one that can be done."""
    names = [name for name, _, _ in hall[0]]
    name = dice.choice(names) if dice.random() < 0.85 else some_name(dice, names)
    word = dice.choice(CHANGES)
    room = dice.randint(1, 3)
    first = dice.choice((0, room, dice.randint(0, room)))
    index = dice.randint(-1, len(hall[1]))
    purses = some_purses(dice)
    if word == "put_machine":
        new = some_name(dice, names) if dice.random() < 0.8 and len(names) < 7 else name
        return word, ((new, dice.randint(1, 6), purses), some_belt(dice,
                                                                   *((new,
                                                                      dice.choice(names)) if new not in names and dice.random() < 0.85 else ("ab", "cd")), 3))
    if word == "put_belt":
        return word, (some_belt(dice, name, dice.choice([one for one in names + ["zz", "zzz"] if one != name]), 3),)
    return word, {"take_machine": (name,), "put_time": (name, dice.randint(1, 6)), "put_purses": (name, purses), "put_filler": (name,), "take_belt": (index,),
                  "put_room": (index, room, first), "put_stop": (name, dice.randrange(6), dice.choice((0, 0, 1, 2)), dice.choice((0, 1, 2, 5)))}[word]


def same_after(case, call, *given):
    """What a call returns, which leaves its arguments as they were and returns the same when asked twice."""
    copies = copy.deepcopy(given)
    before = frozen(given)
    first = call(*given)
    case.assertEqual(frozen(given), before)
    case.assertEqual(frozen(call(*copies)), frozen(first))
    case.assertEqual(frozen(call(*given)), frozen(first))
    return first


def check_new(case, call, *given):
    """A list or dict that is returned is new each time, and no argument."""
    first = call(*given)
    second = call(*given)
    case.assertIn(type(first), (list, dict))
    case.assertIsNot(first, second)
    for thing in given:
        case.assertIsNot(first, thing)
    kept = frozen(second)
    first.clear()
    case.assertEqual(frozen(second), kept)
    case.assertEqual(frozen(call(*given)), kept)


def raised(case, kind, call, *given):
    """The error that a call raises, which is of just this class; its arguments stay as they were."""
    before = frozen(given)
    with case.assertRaises(kind) as held:
        call(*given)
    case.assertIs(type(held.exception), kind)
    case.assertEqual(frozen(given), before)
    return held.exception
