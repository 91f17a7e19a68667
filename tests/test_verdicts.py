"""[26]: whether a HALL HOLDS, and what shows it; [6], [8]: what is promised of it."""

import random
import unittest

from fillerfed.errors import Dead, TooMany
from fillerfed.halls import with_belt, with_purses, with_time
from fillerfed.purses import are_let
from fillerfed.rings import dead_ring, is_live
from fillerfed.runs import waits
from fillerfed.tables import gains, is_table
from fillerfed.verdicts import holds, is_verdict, paying_walk, verdict
from fillerfed.walks import all_walks, index_of, is_walk
from fillerfed.walkstops import gain_of, pays, stops_of
from samples import (DEAD, HALL, LONE, any_values, drawn_walks, frozen, least_begins, least_pace, let_stops, live_halls, own_gains, raised,
                     same_after, some_floors, some_halls, with_pace)

EVEN = ((("cap", 2, ((2, 0),)), ("fill", 4, ()), ("wash", 2, ((2, 0),))), (("wash", "cap", 1, 1), ("cap", "fill", 1, 1)), "fill")
WORSE = ((("cap", 2, ((2, 0),)), ("fill", 4, ()), ("wash", 2, ((3, 0),))),) + EVEN[1:]
SMALL = [hall for hall, _ in live_halls(100, 240, 4)]
PACES = [(hall, least_pace(hall)) for hall in SMALL]
JUST = [with_pace(hall, pace) for hall, pace in PACES if pace]
LESS = [with_pace(hall, pace - 1) for hall, pace in PACES if pace and pace > 1]
HALLS = SMALL + JUST + LESS
MANY = ((("cap", 1, ((10001, 1),)), ("fill", 4, ()), ("wash", 1, ())), (("wash", "cap", 1, 0), ("cap", "fill", 1, 1)), "fill")


def slow_round(time, room):
    """A HALL whose wash gains one tick of 50 at each piece, and that has all of a belt's pieces to make good on the way."""
    return ((("fill", 50, ()), ("wash", time, ((100, 51 - time),))), (("wash", "fill", room, room),), "fill")


def renamed(hall, names):
    """The HALL with other names of the machines."""
    machines, belts, filler = hall
    return (tuple(sorted((names[name], time, purses) for name, time, purses in machines)),
            tuple((names[start], names[end], room, first) for start, end, room, first in belts), names[filler])


def multiplied(hall, times):
    """The HALL with all times, sizes and backs multiplied."""
    machines, belts, filler = hall
    return (tuple((name, time * times, tuple((size * times, back * times) for size, back in purses)) for name, time, purses in machines), belts, filler)


def eased(dice, hall):
    """A HALL that is eased in one way, or changed in none: more room, less time, a smaller PURSE."""
    name, time, purses = dice.choice(hall[0])
    kind = dice.choice(("room", "time", "size", "back", "out"))
    if kind == "room" and hall[1]:
        index = dice.randrange(len(hall[1]))
        _, _, room, first = hall[1][index]
        more = room + dice.randint(1, 3)
        return with_belt(hall, index, more, more if first == room else first)
    if kind == "time" and name != hall[2] and time > 1:
        return with_time(hall, name, time - 1)
    if kind in ("size", "back", "out") and purses:
        at = dice.randrange(len(purses))
        size, back = purses[at]
        other = {"size": ((max(1, size - 1), back),), "back": ((size, max(0, back - 1)),), "out": ()}[kind]
        return with_purses(hall, name, purses[:at] + other + purses[at + 1:])
    return hall


class PayingWalkTest(unittest.TestCase):
    def check_walk(self, hall, walk):
        self.assertTrue(is_walk(hall, walk))
        self.assertTrue(pays(hall, walk))
        self.assertTrue(are_let(hall, stops_of(hall, walk)))

    def test_one_kind_for_each_hall(self):
        kinds = {True: 0, False: 0}
        for hall in HALLS:
            told = own_gains(hall)
            self.assertIs(same_after(self, holds, hall), told is not None)
            walk = same_after(self, paying_walk, hall)
            self.assertIs(walk is None, told is not None)
            if walk is not None:
                self.check_walk(hall, walk)
            found = same_after(self, verdict, hall)
            self.assertEqual(frozen(found), frozen(("holds", told) if walk is None else ("waits", walk)))
            self.assertIs(is_verdict(hall, found), True)
            kinds[walk is None] += 1
        self.assertGreater(min(kinds.values()), 80)

    def test_where_it_holds_no_walk_pays(self):
        dice = random.Random(101)
        for hall in JUST:
            for walk in drawn_walks(dice, hall, 6, 15) + all_walks(hall, 3):
                self.assertLessEqual(gain_of(hall, walk), 0)
                self.assertIs(is_verdict(hall, ("waits", walk)), False)

    def test_the_filler_waits_in_every_run(self):
        dice = random.Random(102)
        checked = 0
        for hall in SMALL + LESS:
            walk = paying_walk(hall)
            if walk is not None and index_of(hall, walk) < 120:
                many, gain = index_of(hall, walk) + 1, gain_of(hall, walk)
                stops = stops_of(hall, walk)
                self.assertGreaterEqual(waits(hall, stops, many)[-1], gain)
                late = least_begins(hall, stops, many, some_floors(dice, hall, many))[hall[2]][-1]
                pace = dict((name, time) for name, time, _ in hall[0])[hall[2]]
                self.assertGreaterEqual(late - (many - 1) * pace, gain)
                checked += 1
        self.assertGreater(checked, 100)

    def test_where_it_holds_no_stops_that_are_let_make_it_wait(self):
        dice = random.Random(103)
        for hall in JUST:
            for _ in range(4):
                self.assertEqual(waits(hall, let_stops(dice, hall, 20), 24), (0,) * 24)

    def test_a_round_that_gains_little(self):
        for time, room in ((2, 1), (30, 20), (50, 20), (1, 7)):
            hall = slow_round(time, room)
            walk = paying_walk(hall)
            self.check_walk(hall, walk)
            self.assertIs(holds(with_pace(hall, 51)), room * 51 >= time + 100)
        # On its belt 20 pieces of 50 ticks are made good; 130 of these are wash's at first, the others come one by one.
        hall = slow_round(30, 20)
        walk = paying_walk(hall)
        self.check_walk(hall, walk)
        self.assertGreater(len(walk[1]), 800)
        self.assertGreaterEqual(waits(hall, stops_of(hall, walk), index_of(hall, walk) + 1)[-1], gain_of(hall, walk))
        self.assertIs(is_verdict(hall, ("waits", walk)), True)

    def test_as_often_as_it_takes(self):
        # Of each piece so many ticks are gained: one more than it takes is not gone along.
        for each in (1, 2, 3, 7):
            hall = ((("fill", 50, ()), ("wash", 30, ((40, 20 + each),))), (("wash", "fill", 20, 20),), "fill")
            walk = paying_walk(hall)
            self.check_walk(hall, walk)
            self.assertIn(gain_of(hall, walk), range(1, each + 1))
            self.assertIs(pays(hall, ("wash", walk[1][1:])), False)

    def test_a_round_through_several_machines(self):
        # Box by itself gains nothing, wash loses; of each round through both, 2 pieces long, one tick is gained.
        hall = ((("box", 3, ((30, 2),)), ("fill", 5, ()), ("wash", 4, ())),
                (("box", "wash", 3, 1), ("wash", "box", 4, 1), ("box", "fill", 9, 9)), "fill")
        walk = paying_walk(hall)
        self.check_walk(hall, walk)
        self.assertGreater(len(walk[1]), 20)
        self.assertTrue(holds(with_time(hall, "wash", 3)))
        for name, time in (("wash", 3), ("wash", 5), ("wash", 6), ("box", 2), ("box", 4), ("fill", 4), ("fill", 6)):
            other = with_time(hall, name, time)
            walk = paying_walk(other)
            self.assertIs(walk is None, own_gains(other) is not None)
            if walk is not None:
                self.check_walk(other, walk)

    def test_where_the_first_piece_is_late_already(self):
        hall = ((("fill", 50, ()), ("wash", 2, ())), (("wash", "fill", 3, 0),), "fill")
        self.assertEqual([paying_walk(hall), verdict(hall)], [("wash", (("down", 0),)), ("waits", ("wash", (("down", 0),)))])

    def test_dead_and_too_many(self):
        for call in (paying_walk, holds, verdict):
            for hall in [hall for hall in some_halls(104, 60) if not is_live(hall)] + [DEAD]:
                self.assertEqual(raised(self, Dead, call, hall).ring, dead_ring(hall))
            self.assertEqual(raised(self, TooMany, call, MANY).most, 20000)


class IsVerdictTest(unittest.TestCase):
    def test_of_other_halls(self):
        told = [verdict(hall) for hall in HALLS]
        for at, hall in enumerate(HALLS):
            for kind, thing in told[max(0, at - 3):at] + [told[at]]:
                right = is_table(hall, thing) if kind == "holds" else is_walk(hall, thing) and pays(hall, thing)
                self.assertIs(same_after(self, is_verdict, hall, (kind, thing)), right)
                self.assertIs(is_verdict(hall, ("waits" if kind == "holds" else "holds", thing)), False)
        self.assertEqual([is_verdict(WORSE, verdict(EVEN)), is_verdict(EVEN, verdict(WORSE)), is_verdict(EVEN, verdict(EVEN))], [False, False, True])

    def test_wrong_values(self):
        table, walk = gains(EVEN), ("wash", (("down", 0), ("down", 1)))
        self.assertEqual([is_verdict(EVEN, ("holds", table)), is_verdict(WORSE, ("waits", walk))], [True, True])
        for thing in (["holds", table], ("holds",), ("holds", table, 0), ("Holds", table), ("", table), (True, table), (table, "holds"), ("holds", walk),
                      ("holds", None), ("holds", {}), ("waits", walk), ("waits", None), ("waits", ()), {"holds": table}, table, ("dead", table),
                      (b"holds", table), ("holds", list(table.items()))):
            self.assertIs(is_verdict(EVEN, thing), False, thing)
        for thing in (["waits", walk], ("waits", list(walk)), ("waits", (walk[0], list(walk[1]))), ("wait", walk), ("waits", ("wash", walk[1][:1])),
                      ("waits", ("cap", walk[1][1:])), ("waits", ("fill", ())), ("waits", (walk[0], walk[1] + (("next", "fill"),))), ("holds", None),
                      ("waits", ("fill", (("next", "fill"),))), walk):
            self.assertIs(is_verdict(WORSE, thing), False, thing)

    def test_a_walk_that_gains_just_0(self):
        walk = ("wash", (("down", 0), ("down", 1)))
        self.assertEqual([gain_of(EVEN, walk), is_verdict(EVEN, ("waits", walk))], [0, False])

    def test_of_halls_that_are_not_live(self):
        # By the words of a TABLE this one is one; the HALL is not LIVE for all that.
        ring = ((("a", 1, ()), ("b", 1, ()), ("fill", 9, ())), (("a", "b", 1, 1), ("b", "a", 1, 1), ("a", "fill", 1, 1)), "fill")
        self.assertFalse(is_live(ring))
        table = {(name, ((), (), ())): 0 for name in ("a", "b", "fill")}
        self.assertIs(is_verdict(ring, ("holds", table)), False)
        walk = ("a", (("down", 0),) * 2)
        for hall in [hall for hall in some_halls(105, 60) if not is_live(hall)] + [DEAD, ring]:
            late = [walk for walk in all_walks(hall, 3) if index_of(hall, walk) == 0]
            for thing in [("holds", {}), ("waits", walk), ("waits", ("fill", ()))] + [("waits", walk) for walk in late]:
                self.assertIs(is_verdict(hall, thing), False)

    def test_any_value(self):
        for hall in (EVEN, LONE, DEAD, HALL, MANY):
            for thing in any_values():
                self.assertIs(is_verdict(hall, thing), False)
                self.assertIs(is_verdict(hall, (thing, gains(EVEN))), False)
                self.assertIs(is_verdict(hall, ("holds", thing)), False)
                self.assertIs(is_verdict(hall, ("waits", thing)), False)
        self.assertIs(is_verdict(LONE, ("holds", {("fill", ((),)): 0})), True)


class HarmTest(unittest.TestCase):
    def test_what_eases_never_harms(self):
        dice = random.Random(106)
        eased_ones = helped = 0
        for hall in HALLS:
            for _ in range(6):
                other = eased(dice, hall)
                if holds(hall):
                    eased_ones += other != hall
                    self.assertTrue(holds(other))
                else:
                    helped += holds(other)
        self.assertGreater(eased_ones, 150)
        self.assertGreater(helped, 10)

    def test_other_names(self):
        dice = random.Random(107)
        for hall in HALLS:
            names = [name for name, _, _ in hall[0]]
            others = dice.sample(["a", "kk", "m", "zzzz", "b", "fill", "wash"], len(names))
            self.assertIs(holds(renamed(hall, dict(zip(names, others)))), holds(hall))

    def test_all_multiplied_by_one_number(self):
        for hall in HALLS:
            for times in (2, 3, 10):
                self.assertIs(holds(multiplied(hall, times)), holds(hall))

    def test_the_filler_holds_alone(self):
        self.assertEqual([holds(LONE), paying_walk(LONE), verdict(LONE)], [True, None, ("holds", {("fill", ((),)): 0})])


if __name__ == "__main__":
    unittest.main()
