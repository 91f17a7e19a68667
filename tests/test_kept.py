"""[37]: halls that are kept under changes; [10]: what is kept tells what a new one would tell."""

import copy
import random
import unittest

from fillerfed.blame import chain
from fillerfed.booking import booked
from fillerfed.books import word_of
from fillerfed.errors import Dead, Nothing, TooMany, Wrong
from fillerfed.forms import is_belt, is_count, is_hall, is_integer, is_machine, is_name, is_positive, is_purse, is_stops
from fillerfed.kept import Kept
from fillerfed.rings import dead_ring, is_live
from fillerfed.runs import waits
from fillerfed.verdicts import verdict
from samples import DEAD, HALL, LONE, NEVER_RIGHT, WIDE, Odd, any_values, drawn_change, frozen, some_hall

MACHINES = (("cap", 2, ((2, 1),)), ("fill", 4, ()), ("wash", 2, ((3, 0), (1, 1))))
FED = (MACHINES, (("wash", "fill", 1, 1), ("fill", "cap", 1, 0), ("wash", "cap", 3, 2)), "fill")


def are_purses(thing):
    return type(thing) is tuple and all(is_purse(purse) for purse in thing)


# For each method what its arguments have to be, and some that are.
KINDS = {
    "put_machine": ((is_machine, is_belt), (("box", 5, ()), ("cap", "box", 2, 0))),
    "take_machine": ((is_name,), ("wash",)),
    "put_time": ((is_name, is_positive), ("wash", 5)),
    "put_purses": ((is_name, are_purses), ("wash", ((2, 0),))),
    "put_filler": ((is_name,), ("fill",)),
    "put_belt": ((is_belt,), (("cap", "wash", 2, 1),)),
    "take_belt": ((is_integer,), (2,)),
    "put_room": ((is_integer, is_positive, is_count), (0, 3, 2)),
    "put_stop": ((is_name, is_count, is_count, is_count), ("wash", 3, 1, 2)),
}


class Plain:
    """What is kept, by the words of the document: machines, belts and STOPS one by one; all of it copied ahead of each CHANGE."""

    def __init__(self, hall):
        self.machines = {name: [time, list(purses)] for name, time, purses in hall[0]}
        self.belts = list(hall[1])
        self.filler = hall[2]
        self.told = {}
        self.before = []

    def hall(self):
        return (tuple((name, self.machines[name][0], tuple(self.machines[name][1])) for name in sorted(self.machines)), tuple(self.belts), self.filler)

    def stops(self):
        return {key: self.told[key] for key in sorted(self.told)}

    def kept(self):
        return copy.deepcopy((self.machines, self.belts, self.filler, self.told))

    def is_joined(self):
        reached = {self.filler}
        while True:
            more = {name for belt in self.belts if reached & set(belt[:2]) for name in belt[:2]}
            if more <= reached:
                return reached == set(self.machines)
            reached |= more

    def do(self, word, *given):
        """Does a CHANGE, or takes back what it has begun; returns whether it is done."""
        before = self.kept()
        done = getattr(self, word)(*given)
        self.told = {key: ticks for key, ticks in self.told.items() if key[0] in self.machines and key[2] < len(self.machines[key[0]][1])}
        if done and self.is_joined():
            self.before.append(before)
            return True
        self.machines, self.belts, self.filler, self.told = before
        return False

    def undo(self):
        self.machines, self.belts, self.filler, self.told = self.before.pop()

    def put_machine(self, machine, belt):
        name, time, purses = machine
        if name in self.machines or name not in belt[:2] or not all(one in self.machines or one == name for one in belt[:2]):
            return False
        self.machines[name] = [time, list(purses)]
        self.belts.append(belt)
        return True

    def take_machine(self, name):
        if name not in self.machines or name == self.filler:
            return False
        del self.machines[name]
        self.belts = [belt for belt in self.belts if belt[0] != name and belt[1] != name]
        return True

    def put_time(self, name, time):
        if name in self.machines:
            self.machines[name][0] = time
        return name in self.machines

    def put_purses(self, name, purses):
        if name not in self.machines or name == self.filler:
            return False
        self.machines[name][1] = list(purses)
        return True

    def put_filler(self, name):
        if name not in self.machines or self.machines[name][1]:
            return False
        self.filler = name
        return True

    def put_belt(self, belt):
        if belt[0] not in self.machines or belt[1] not in self.machines:
            return False
        self.belts.append(belt)
        return True

    def take_belt(self, index):
        if not 0 <= index < len(self.belts):
            return False
        del self.belts[index]
        return True

    def put_room(self, index, room, first):
        if not 0 <= index < len(self.belts):
            return False
        self.belts[index] = self.belts[index][:2] + (room, first)
        return True

    def put_stop(self, name, piece, purse, ticks):
        if name not in self.machines or purse >= len(self.machines[name][1]):
            return False
        self.told[name, piece, purse] = ticks
        if not ticks:
            del self.told[name, piece, purse]
        return True


def with_stops(hall, stops):
    """A new Kept with these STOPS."""
    kept = Kept(hall)
    for (name, piece, purse), ticks in stops.items():
        assert kept.put_stop(name, piece, purse, ticks)
    return kept


def fed():
    """A Kept of FED with some STOPS, and no CHANGES but these."""
    return with_stops(FED, {("wash", 0, 0): 3, ("wash", 2, 1): 1, ("cap", 1, 0): 2})


def outcome(call, *given):
    """What a call returns or raises."""
    try:
        return frozen(call(*given))
    except (Dead, TooMany) as error:
        return type(error).__name__, frozen(list(vars(error).values()))


class ChangesTest(unittest.TestCase):
    def check_same(self, kept, plain):
        self.assertEqual(frozen(kept.hall()), frozen(plain.hall()))
        self.assertEqual(frozen(kept.stops()), frozen(plain.stops()))
        self.assertTrue(is_hall(kept.hall()))
        self.assertTrue(is_stops(kept.hall(), kept.stops()))

    def test_drawn_changes(self):
        dice = random.Random(220)
        done = {word: [0, 0] for word in KINDS}
        undone = 0
        for at in range(120):
            hall = some_hall(dice, 1 + at % 5, 2, 3)
            kept, plain = Kept(hall), Plain(hall)
            for _ in range(25):
                word, given = drawn_change(dice, plain.hall())
                told = plain.do(word, *given)
                self.assertIs(getattr(kept, word)(*given), told, (word, given))
                done[word][told] += 1
                self.check_same(kept, plain)
                while dice.random() < 0.15 and plain.before:
                    plain.undo()
                    self.assertIsNone(kept.undo())
                    self.check_same(kept, plain)
                    undone += 1
            for _ in plain.before[:]:
                plain.undo()
                kept.undo()
                self.check_same(kept, plain)
            self.assertRaises(Nothing, kept.undo)
            self.assertEqual([kept.hall(), kept.stops(), kept == Kept(hall)], [hall, {}, True])
        self.assertGreater(min(min(told) for told in done.values()), 15, done)
        self.assertGreater(undone, 150)

    def check_not_done(self, kept, word, *given):
        hall, stops, turned = kept.hall(), kept.stops(), kept.turned()
        self.assertIs(getattr(kept, word)(*given), False, (word, given))
        self.assertEqual([kept.hall(), kept.stops(), kept.turned()], [hall, stops, turned])

    def test_each_reason_for_which_one_is_not_done(self):
        kept = Kept(FED)
        for word, given in (("put_machine", (("wash", 2, ()), ("wash", "fill", 1, 1))), ("put_machine", (("cap", 2, ()), ("box", "cap", 1, 1))),
                            ("put_machine", (("box", 2, ()), ("wash", "fill", 1, 1))), ("put_machine", (("box", 2, ()), ("box", "pot", 1, 1))),
                            ("put_machine", (("box", 2, ()), ("pot", "box", 1, 1))), ("put_machine", (("box", 2, ()), ("pot", "fill", 1, 1))),
                            ("take_machine", ("fill",)), ("take_machine", ("box",)), ("put_time", ("box", 1)), ("put_purses", ("box", ())),
                            ("put_purses", ("fill", ())), ("put_purses", ("fill", ((1, 0),))), ("put_filler", ("box",)), ("put_filler", ("wash",)),
                            ("put_belt", (("box", "cap", 1, 0),)), ("put_belt", (("cap", "box", 1, 0),)), ("take_belt", (3,)), ("take_belt", (-1,)),
                            ("take_belt", (10 ** 30,)), ("put_room", (3, 1, 0)), ("put_room", (-1, 1, 0)), ("put_stop", ("box", 0, 0, 1)),
                            ("put_stop", ("wash", 0, 2, 1)), ("put_stop", ("fill", 0, 0, 1)), ("put_stop", ("fill", 0, 0, 0)), ("put_stop", ("cap", 0, 1, 0))):
            self.check_not_done(kept, word, *given)
        self.assertRaises(Nothing, kept.undo)
        # Where a machine or a belt is all that joins others to the rest.
        line = Kept((MACHINES, (("wash", "cap", 1, 1), ("cap", "fill", 1, 1)), "fill"))
        for word, given in (("take_machine", ("cap",)), ("take_belt", (0,)), ("take_belt", (1,))):
            self.check_not_done(line, word, *given)
        self.check_not_done(Kept(LONE), "take_machine", "fill")
        self.check_not_done(Kept(LONE), "take_belt", 0)
        self.assertRaises(Nothing, line.undo)

    def test_each_is_done(self):
        for word, given, told in (("put_machine", (("box", 5, ((1, 1),)), ("cap", "box", 2, 0)),
                                   [(0, (("box", 5, ((1, 1),)),) + MACHINES), (1, FED[1] + (("cap", "box", 2, 0),))]),
                                  ("put_machine", (("zip", 5, ()), ("zip", "cap", 2, 1)),
                                   [(0, MACHINES + (("zip", 5, ()),)), (1, FED[1] + (("zip", "cap", 2, 1),))]),
                                  ("take_machine", ("cap",), [(0, MACHINES[1:]), (1, FED[1][:1])]),
                                  ("put_time", ("fill", 9), [(0, (MACHINES[0], ("fill", 9, ()), MACHINES[2]))]),
                                  ("put_purses", ("cap", ()), [(0, (("cap", 2, ()),) + MACHINES[1:])]),
                                  ("put_filler", ("fill",), []),
                                  ("put_belt", (("fill", "wash", 4, 0),), [(1, FED[1] + (("fill", "wash", 4, 0),))]),
                                  ("take_belt", (0,), [(1, FED[1][1:])]),
                                  ("put_room", (1, 7, 7), [(1, (FED[1][0], ("fill", "cap", 7, 7), FED[1][2]))])):
            kept = Kept(FED)
            self.assertIs(getattr(kept, word)(*given), True)
            hall = list(FED)
            for at, part in told:
                hall[at] = part
            self.assertEqual(frozen(kept.hall()), frozen(tuple(hall)))
            self.assertEqual(kept.stops(), {})
        kept = Kept((MACHINES[:2] + (("pot", 1, ()),), (("fill", "cap", 1, 0), ("pot", "cap", 1, 1)), "fill"))
        self.assertEqual([kept.put_filler("pot"), kept.hall()[2], kept.put_purses("fill", ((1, 0),)), kept.put_filler("fill")], [True, "pot", True, False])

    def test_what_is_put_as_it_was_before_is_done(self):
        kept = fed()
        hall, stops = kept.hall(), kept.stops()
        for word, given in (("put_time", ("wash", 2)), ("put_purses", ("wash", ((3, 0), (1, 1)))), ("put_filler", ("fill",)), ("put_room", (0, 1, 1)),
                            ("put_stop", ("wash", 0, 0, 3)), ("put_stop", ("wash", 9, 0, 0))):
            self.assertIs(getattr(kept, word)(*given), True)
            self.assertEqual([kept.hall(), kept.stops()], [hall, stops])
        # Each of them is a CHANGE that can be taken back.
        for _ in range(6):
            self.assertEqual([kept.undo(), kept.hall(), kept.stops()], [None, hall, stops])
        kept.undo()
        self.assertEqual(kept.stops(), {("wash", 0, 0): 3, ("wash", 2, 1): 1})

    def test_stops_go_with_machines_and_purses(self):
        for word, given, left in (("take_machine", ("wash",), [("cap", 1, 0)]), ("take_machine", ("cap",), [("wash", 0, 0), ("wash", 2, 1)]),
                                  ("put_purses", ("wash", ((7, 7),)), [("cap", 1, 0), ("wash", 0, 0)]), ("put_purses", ("wash", ()), [("cap", 1, 0)]),
                                  ("put_purses", ("wash", ((1, 0), (2, 0), (3, 0))), [("cap", 1, 0), ("wash", 0, 0), ("wash", 2, 1)]),
                                  ("take_belt", (2,), [("cap", 1, 0), ("wash", 0, 0), ("wash", 2, 1)]),
                                  ("put_stop", ("wash", 0, 0, 0), [("cap", 1, 0), ("wash", 2, 1)])):
            kept = fed()
            told = kept.stops()
            self.assertIs(getattr(kept, word)(*given), True)
            self.assertEqual(frozen(kept.stops()), frozen({key: told[key] for key in left}))
            kept.undo()
            self.assertEqual([frozen(kept.stops()), kept.hall()], [frozen(told), FED])
        # A machine that comes again has none.
        kept = fed()
        kept.take_machine("wash")
        kept.put_machine(MACHINES[2], ("wash", "fill", 1, 1))
        self.assertEqual(kept.stops(), {("cap", 1, 0): 2})

    def test_indexes_of_later_belts_go_down(self):
        kept = Kept((MACHINES, tuple(("wash", "fill", room, 0) for room in range(1, 6)) + (("fill", "cap", 1, 0),), "fill"))
        self.assertEqual([kept.take_belt(1), kept.take_belt(1), [belt[2] for belt in kept.hall()[1]]], [True, True, [1, 4, 5, 1]])
        self.assertEqual([kept.put_room(1, 9, 9), kept.hall()[1][1], kept.take_belt(3), kept.take_belt(4)], [True, ("wash", "fill", 9, 9), False, False])

    def test_stops_of_any_piece(self):
        kept = fed()
        for piece, ticks in ((5, 10 ** 9), (400, 1), (10 ** 12, 3), (0, 10 ** 30)):
            self.assertIs(kept.put_stop("cap", piece, 0, ticks), True)
            self.assertEqual(kept.stops()["cap", piece, 0], ticks)
        self.assertEqual(list(kept.stops()), sorted(kept.stops()))


class WrongTest(unittest.TestCase):
    def check_wrong(self, kept, word, place, given):
        hall, stops = kept.hall(), kept.stops()
        before = frozen(given)
        with self.assertRaises(Wrong) as held:
            getattr(kept, word)(*given)
        self.assertEqual(frozen(held.exception.place), frozen(place), (word, given))
        self.assertEqual([kept.hall(), kept.stops(), frozen(given)], [hall, stops, before])

    def test_the_first_argument_that_is_not_as_described(self):
        kept = fed()
        things = any_values() + list(NEVER_RIGHT) + [Odd(), kept, Kept]
        for word, (kinds, right) in KINDS.items():
            for place, kind in enumerate(kinds):
                for thing in things:
                    if not kind(thing):
                        self.check_wrong(kept, word, place, right[:place] + (thing,) + right[place + 1:])
                        # Whatever stands behind it; what is not as described ahead of it comes first.
                        self.check_wrong(kept, word, place, right[:place] + (thing,) + (None,) * (len(kinds) - place - 1))
                        if place:
                            self.check_wrong(kept, word, 0, (None,) + right[1:place] + (thing,) + right[place + 1:])
        for _ in range(3):
            kept.undo()
        self.assertRaises(Nothing, kept.undo)

    def test_wrong_comes_ahead_of_not_done(self):
        kept = Kept(FED)
        for word, place, given in (("put_machine", 1, (("wash", 2, ()), ("wash", "wash", 1, 1))), ("put_time", 1, ("nobody", 0)),
                                   ("put_purses", 1, ("fill", [])),
                                   ("put_purses", 1, ("nobody", ((0, 1),))), ("put_room", 1, (99, 0, 0)), ("put_room", 2, (99, 1, 2)),
                                   ("put_stop", 3, ("nobody", 0, 0, -1)),
                                   ("put_stop", 1, ("fill", -1, 0, 1)), ("put_stop", 2, ("fill", 0, -1, 1))):
            self.check_wrong(kept, word, place, given)

    def test_room_and_first(self):
        kept = Kept(FED)
        for place, given in ((1, (0, 0, 0)), (1, (0, -1, 0)), (1, (0, True, 0)), (1, (0, 0, -1)), (1, (0, None, None)), (1, (0, "1", 5)),
                             (2, (0, 2, 3)), (2, (0, 2, -1)),
                             (2, (0, 2, True)), (2, (0, 1, None)), (2, (0, 1, "0")), (0, (None, 0, 9)), (0, (False, 1, 0)), (0, ("0", 1, 0)), (2, (0, 5, 6))):
            self.check_wrong(kept, "put_room", place, given)
        self.assertEqual([kept.put_room(0, 2, 2), kept.put_room(0, 2, 0), kept.put_room(0, 5, 5)], [True, True, True])

    def test_of_kept_itself(self):
        for thing in any_values() + list(NEVER_RIGHT) + [Kept(FED), list(FED), FED[:2], FED + (0,), (MACHINES, FED[1], "wash"), (MACHINES, FED[1][:1], "fill")]:
            if not is_hall(thing):
                with self.assertRaises(Wrong) as held:
                    Kept(thing)
                self.assertEqual(held.exception.place, 0)
        for hall in (FED, LONE, DEAD, HALL, WIDE):
            self.assertEqual([Kept(hall).hall(), Kept(hall).stops()], [hall, {}])


class UndoTest(unittest.TestCase):
    def test_of_each_kind(self):
        for word, (_, given) in KINDS.items():
            kept = fed()
            hall, stops = kept.hall(), kept.stops()
            self.assertIs(getattr(kept, word)(*given), True)
            if word != "put_filler":
                self.assertNotEqual([kept.hall(), kept.stops()], [hall, stops])
            self.assertEqual([kept.undo(), frozen(kept.hall()), frozen(kept.stops())], [None, frozen(hall), frozen(stops)])

    def test_several_one_behind_the_other(self):
        kept = fed()
        rows = []
        for word in ["put_stop"] + sorted(set(KINDS) - {"put_stop"}):
            rows.append((kept.hall(), kept.stops()))
            self.assertIs(getattr(kept, word)(*KINDS[word][1]), True)
        for hall, stops in rows[::-1]:
            kept.undo()
            self.assertEqual([kept.hall(), kept.stops()], [hall, stops])

    def test_what_is_done_behind_an_undo(self):
        kept = Kept(FED)
        kept.put_time("wash", 7)
        kept.undo()
        kept.put_time("cap", 8)
        kept.undo()
        self.assertEqual([kept.hall(), kept.turned()], [FED, None])
        self.assertRaises(Nothing, kept.undo)
        # What could not be done is no CHANGE.
        kept.put_time("cap", 8)
        kept.put_time("nobody", 8)
        kept.undo()
        self.assertEqual(kept.hall(), FED)

    def test_nothing(self):
        for kept in (Kept(FED), Kept(LONE), Kept(DEAD)):
            with self.assertRaises(Nothing) as held:
                kept.undo()
            self.assertIs(type(held.exception), Nothing)


class TurnedTest(unittest.TestCase):
    def test_ahead_of_behind_and_back(self):
        kept = Kept((MACHINES[:2] + (("wash", 2, ((3, 0),)),), FED[1][:2], "fill"))
        self.assertIsNone(kept.turned())
        kept.put_purses("wash", ((2, 0),))
        self.assertEqual(kept.turned(), ("waits", "holds"))
        kept.put_stop("wash", 0, 0, 2)
        self.assertEqual(kept.turned(), ("holds", "holds"))
        kept.put_purses("fill", ((1, 0),))
        self.assertEqual(kept.turned(), ("holds", "holds"))
        kept.put_room(0, 1, 0)
        kept.put_belt(("fill", "wash", 1, 1))
        self.assertEqual(kept.turned(), (word_of((kept.hall()[0], kept.hall()[1][:-1], "fill")), word_of(kept.hall())))
        kept.undo()
        kept.undo()
        self.assertEqual(kept.turned(), ("holds", "holds"))
        kept.undo()
        self.assertEqual(kept.turned(), ("waits", "holds"))
        kept.undo()
        self.assertIsNone(kept.turned())

    def test_dead_and_many(self):
        kept = Kept(DEAD)
        self.assertIs(kept.put_room(0, 2, 1), True)
        self.assertEqual(kept.turned(), ("dead", word_of(kept.hall())))
        kept = Kept(WIDE)
        self.assertIs(kept.put_belt(("cap", "wash", 1, 1)), True)
        self.assertEqual(kept.turned(), ("many", "dead"))

    def test_drawn(self):
        dice = random.Random(221)
        seen = {}
        for at in range(60):
            kept = Kept(some_hall(dice, 2 + at % 2, 1, 2))
            words = [word_of(kept.hall())]
            for _ in range(8):
                word, given = drawn_change(dice, kept.hall())
                if getattr(kept, word)(*given):
                    words.append(word_of(kept.hall()))
                    self.assertEqual(frozen(kept.turned()), frozen(tuple(words[-2:])))
                    seen[kept.turned()] = True
            while len(words) > 1:
                self.assertEqual(kept.turned(), tuple(words[-2:]))
                kept.undo()
                words.pop()
            self.assertIsNone(kept.turned())
        self.assertGreater(len(seen), 6)


class TwinTest(unittest.TestCase):
    def test_it_goes_on_by_itself(self):
        kept = fed()
        twin = kept.twin()
        self.assertIs(type(twin), Kept)
        self.assertIsNot(twin, kept)
        self.assertEqual([twin.hall(), twin.stops(), twin == kept], [kept.hall(), kept.stops(), True])
        twin.put_time("wash", 9)
        twin.put_stop("cap", 1, 0, 0)
        self.assertEqual([kept.hall(), kept.stops(), twin == kept], [FED, fed().stops(), False])
        kept.take_machine("wash")
        self.assertEqual([twin.hall()[0][2][1], list(twin.stops())], [9, [("wash", 0, 0), ("wash", 2, 1)]])

    def test_with_what_can_be_taken_back(self):
        kept = fed()
        kept.take_machine("cap")
        twin = kept.twin()
        for one, other in ((kept, twin), (twin, kept)):
            copy_of = one.twin()
            rows = []
            for _ in range(4):
                copy_of.undo()
                rows.append(copy_of.stops())
            self.assertRaises(Nothing, copy_of.undo)
            self.assertEqual(rows, [fed().stops(), {("wash", 0, 0): 3, ("wash", 2, 1): 1}, {("wash", 0, 0): 3}, {}])
            self.assertEqual([copy_of.hall(), one == other], [FED, True])
        kept.undo()
        self.assertEqual([len(kept.hall()[0]), len(twin.hall()[0]), twin.turned()], [3, 2, (word_of(FED), word_of(twin.hall()))])
        twin.undo()
        twin.undo()
        self.assertEqual([kept.stops(), twin.stops()], [fed().stops(), {("wash", 0, 0): 3, ("wash", 2, 1): 1}])


class EqualTest(unittest.TestCase):
    def test_halls_and_stops(self):
        self.assertTrue(Kept(FED) == Kept(FED))
        self.assertFalse(Kept(FED) != Kept(FED))
        self.assertFalse(Kept(FED) == Kept(HALL))
        self.assertFalse(Kept(FED) == fed())
        # Nothing but what is kept counts, neither how it came about nor in which order.
        kept = with_stops(FED, {("cap", 1, 0): 2, ("wash", 2, 1): 1, ("wash", 0, 0): 3})
        self.assertTrue(kept == fed())
        kept.put_stop("wash", 0, 0, 2)
        self.assertFalse(kept == fed())
        kept.put_stop("wash", 0, 0, 3)
        self.assertTrue(kept == fed())
        kept.put_filler("fill")
        self.assertTrue(kept == fed())
        for word, given in (("put_time", ("cap", 3)), ("put_belt", (("cap", "wash", 1, 0),)), ("put_room", (0, 1, 0))):
            other = fed()
            getattr(other, word)(*given)
            self.assertFalse(other == fed())
            other.undo()
            self.assertTrue(other == fed())

    def test_values_of_other_kinds(self):
        kept = Kept(LONE)
        for thing in any_values() + [LONE, (LONE, {}), [LONE, {}]]:
            self.assertIs(kept == thing, False)
            self.assertIs(kept != thing, True)


class TellsTest(unittest.TestCase):
    def all_told(self, kept, pieces=8):
        return [outcome(kept.hall), outcome(kept.stops), outcome(kept.verdict), outcome(kept.waits, pieces), outcome(kept.lost, pieces - 1),
                outcome(kept.lost, 0)]

    def test_what_a_new_one_tells_whatever_was_asked_ahead(self):
        dice = random.Random(222)
        kinds = {}
        for at in range(70):
            kept = Kept(some_hall(dice, 2 + at % 3, 1, 2))
            for step in range(7):
                word, given = drawn_change(dice, kept.hall())
                getattr(kept, word)(*given)
                if step % 3 == 2 and kept.turned():
                    kept.undo()
                if dice.random() < 0.5:
                    new = with_stops(kept.hall(), kept.stops())
                    told = self.all_told(kept)
                    self.assertEqual(told, self.all_told(new))
                    self.assertEqual(told, self.all_told(kept))
                    self.assertEqual(told, self.all_told(kept.twin()))
                    self.assertTrue(kept == new)
                    kinds[word_of(kept.hall())] = True
                    self.check_told(kept)
        self.assertEqual(sorted(kinds), ["dead", "holds", "waits"])

    def check_told(self, kept):
        hall, stops = kept.hall(), kept.stops()
        if is_live(hall):
            self.assertEqual(frozen(kept.verdict()), frozen(verdict(hall)))
            for many in (0, 1, 9):
                self.assertEqual(frozen(kept.waits(many)), frozen(waits(hall, stops, many)))
            for piece in (0, 1, 5):
                self.assertEqual(frozen(kept.lost(piece)), frozen(booked(hall, stops, chain(hall, stops, piece))))
                losses, rest = kept.lost(piece)
                self.assertEqual(sum(losses.values()) - rest, kept.waits(piece + 1)[piece])
        else:
            for call, given in ((kept.verdict, ()), (kept.waits, (0,)), (kept.waits, (5,)), (kept.lost, (0,)), (kept.lost, (9,))):
                with self.assertRaises(Dead) as held:
                    call(*given)
                self.assertEqual(held.exception.ring, dead_ring(hall))

    def test_far(self):
        kept = fed()
        self.assertEqual([len(kept.waits(400)), kept.waits(0), kept.waits(400)[399] == sum(kept.lost(399)[0].values()) - kept.lost(399)[1]], [400, (), True])

    def test_dead_and_too_many(self):
        self.check_told(Kept(DEAD))
        with self.assertRaises(TooMany) as held:
            Kept(WIDE).verdict()
        self.assertEqual(held.exception.most, 20000)
        self.assertEqual(Kept(WIDE).waits(2), waits(WIDE, {}, 2))

    def test_all_is_told_anew(self):
        kept = fed()
        for call, given in ((kept.stops, ()), (lambda: kept.lost(5)[0], ()), (lambda: Kept(LONE).verdict()[1], ())):
            first = call(*given)
            before = frozen(first)
            self.assertEqual(before, frozen(call(*given)))
            first["x"] = 1
            self.assertEqual(before, frozen(call(*given)))
        good = Kept((MACHINES[:1] + (("fill", 90, ()),), (("cap", "fill", 1, 1),), "fill"))
        table = good.verdict()[1]
        table.clear()
        self.assertGreater(len(good.verdict()[1]), 0)
        told = kept.stops()
        told.clear()
        self.assertEqual(kept, fed())

    def test_what_is_handed_in_stays(self):
        kept = fed()
        for word, (_, given) in KINDS.items():
            before = frozen(given)
            getattr(kept, word)(*given)
            self.assertEqual(frozen(given), before)


if __name__ == "__main__":
    unittest.main()
