"""[18]: what machines do, tick by tick."""

import random
import unittest

from fillerfed.errors import Dead, TooMany
from fillerfed.rings import dead_ring, is_live
from fillerfed.ticks import first_moment, next_moment, tick_begins
from samples import DEAD, HALL, LONE, check_new, least_begins, live_halls, raised, same_after, some_halls

LINE = ((("fill", 4, ()), ("sort", 2, ((2, 0),)), ("wash", 2, ((3, 1),))), (("wash", "sort", 1, 1), ("sort", "fill", 1, 1)), "fill")
LAST = 20000


class Floor:
    """Another going over a HALL tick by tick, by the paragraph's words, in which machines begin in any order."""

    def __init__(self, hall, stops, many, dice):
        self.hall, self.stops, self.many, self.dice = hall, stops, many, dice
        self.tick = 0
        self.lying = [first for _, _, _, first in hall[1]]
        self.begun = {name: 0 for name, _, _ in hall[0]}
        self.until = {name: None for name, _, _ in hall[0]}
        self.begins = {name: [] for name, _, _ in hall[0]}
        self.begin_all()

    def go_on(self):
        self.tick += 1
        for name, until in self.until.items():
            if until == self.tick:
                self.until[name] = None
                for index, belt in enumerate(self.hall[1]):
                    self.lying[index] += belt[0] == name
        self.begin_all()

    def can_begin(self, name):
        if self.until[name] is not None or self.begun[name] >= self.many:
            return False
        for index, (start, end, room, _) in enumerate(self.hall[1]):
            if end == name and self.lying[index] == 0 or start == name and self.lying[index] >= room:
                return False
        return True

    def begin_all(self):
        able = [name for name in self.begun if self.can_begin(name)]
        while able:
            name = self.dice.choice(able)
            time = dict((one, time) for one, time, _ in self.hall[0])[name]
            taken = sum(ticks for (one, piece, _), ticks in self.stops.items() if (one, piece) == (name, self.begun[name]))
            for index, belt in enumerate(self.hall[1]):
                self.lying[index] -= belt[1] == name
            self.begun[name] += 1
            self.until[name] = self.tick + time + taken
            self.begins[name].append(self.tick)
            able = [name for name in self.begun if self.can_begin(name)]

    def moment(self):
        return (self.tick, tuple(self.lying), tuple((self.begun[name], self.until[name]) for name in self.begun))


class MomentsTest(unittest.TestCase):
    def test_step_by_step(self):
        dice = random.Random(17)
        for hall, stops in live_halls(17, 120) + [(DEAD, {}), (HALL, {}), (LONE, {}), (LINE, {("sort", 0, 0): 2})]:
            for many in (0, 1, 2, 7):
                floor = Floor(hall, stops, many, dice)
                moment = same_after(self, first_moment, hall, stops, many)
                self.assertEqual(moment, floor.moment())
                for _ in range(40):
                    floor.go_on()
                    moment = same_after(self, next_moment, hall, stops, many, moment)
                    self.assertEqual(moment, floor.moment())

    def test_kinds(self):
        tick, lying, made = first_moment(LINE, {}, 2)
        self.assertEqual([type(tick), type(lying), type(made), type(made[0])], [int, tuple, tuple, tuple])

    def test_many_of_0(self):
        still = (0, (1, 1), ((0, None), (0, None), (0, None)))
        self.assertEqual(first_moment(LINE, {}, 0), still)
        self.assertEqual(next_moment(LINE, {}, 0, still), (1,) + still[1:])

    def test_ends_and_begins_at_one_tick(self):
        moment = first_moment(LONE, {}, 3)
        rows = [moment]
        for _ in range(13):
            moment = next_moment(LONE, {}, 3, moment)
            rows.append(moment)
        self.assertEqual([row[2][0] for row in rows], [(1, 4)] * 4 + [(2, 8)] * 4 + [(3, 12)] * 4 + [(3, None)] * 2)
        self.assertEqual([row[0] for row in rows], list(range(14)))

    def test_full_empty_and_between(self):
        machines = (("a", 1, ()), ("b", 3, ()))
        hall = (machines, (("a", "b", 3, 0),), "a")
        rows = [first_moment(hall, {}, 9)]
        for _ in range(9):
            rows.append(next_moment(hall, {}, 9, rows[-1]))
        # Empty at first: b begins when the first piece is there; then the belt fills till a has to wait for b.
        self.assertEqual([lying for _, (lying,), _ in rows], [0, 0, 1, 2, 2, 3, 3, 2, 3, 3])
        self.assertEqual([made for _, _, (made, _) in rows],
                         [(1, 1), (2, 2), (3, 3), (4, 4), (5, 5), (5, None), (5, None), (6, 8), (6, None), (6, None)])
        full = (machines, (("a", "b", 3, 3),), "a")
        self.assertEqual(first_moment(full, {}, 9), (0, (2,), ((1, 1), (1, 3))))
        self.assertEqual(first_moment((machines, (("a", "b", 3, 1),), "a"), {}, 9), (0, (0,), ((1, 1), (1, 3))))

    def test_room_because_the_machine_behind_begins_at_this_tick(self):
        machines = (("a", 1, ()), ("b", 1, ()), ("c", 4, ()))
        hall = (machines, (("a", "b", 1, 1), ("b", "c", 1, 1)), "c")
        rows = [first_moment(hall, {}, 9)]
        for _ in range(5):
            rows.append(next_moment(hall, {}, 9, rows[-1]))
        # At the ticks 0 and 4 c begins and makes room for b, and b for a.
        waiting = ((1, 1), ((1, None), (1, None), (1, 4)))
        self.assertEqual(rows, [(0, (0, 0), ((1, 1), (1, 1), (1, 4))), (1,) + waiting, (2,) + waiting, (3,) + waiting,
                                (4, (0, 0), ((2, 5), (2, 5), (2, 8))), (5, (1, 1), ((2, None), (2, None), (2, 8)))])
        self.assertEqual(tick_begins(hall, {}, 4), {name: (0, 4, 8, 12) for name in "abc"})

    def test_stops_of_all_purses_at_one_piece(self):
        stops = {("wash", 1, 1): 5, ("wash", 0, 1): 2, ("wash", 0, 0): 3, ("cap", 0, 0): 9}
        self.assertEqual(first_moment(HALL, stops, 5)[2], ((0, None), (1, 4), (1, 7)))

    def test_no_machine_of_a_dead_ring_begins(self):
        moment = first_moment(DEAD, {}, 5)
        for tick in range(5):
            self.assertEqual(moment, (tick, (0, 0), ((0, None), (0, None))))
            moment = next_moment(DEAD, {}, 5, moment)


class TickBeginsTest(unittest.TestCase):
    def test_against_the_other_floor_and_the_least_run(self):
        dice = random.Random(18)
        for hall, stops in live_halls(18, 200):
            many = dice.choice((1, 2, 9, 16))
            found = same_after(self, tick_begins, hall, stops, many)
            self.assertEqual(list(found), sorted(name for name, _, _ in hall[0]))
            self.assertEqual({type(row) for row in found.values()}, {tuple})
            self.assertEqual({len(row) for row in found.values()}, {many})
            self.assertEqual(found, least_begins(hall, stops, many))
            floor = Floor(hall, stops, many, dice)
            while min(floor.begun.values()) < many:
                floor.go_on()
            self.assertEqual(found, {name: tuple(row) for name, row in floor.begins.items()})
            check_new(self, tick_begins, hall, stops, many)

    def test_more_pieces_begin_with_the_fewer(self):
        for hall, stops in live_halls(19, 40):
            many = tick_begins(hall, stops, 12)
            few = tick_begins(hall, stops, 5)
            self.assertEqual(few, {name: row[:5] for name, row in many.items()})

    def test_many_of_0(self):
        self.assertEqual([tick_begins(LINE, {}, 0), tick_begins(LONE, {}, 0)], [{"fill": (), "sort": (), "wash": ()}, {"fill": ()}])
        self.assertEqual(tick_begins(LINE, {("sort", 0, 0): 99999}, 0), {"fill": (), "sort": (), "wash": ()})

    def test_stops_at_pieces_that_are_not_asked_for(self):
        self.assertEqual(tick_begins(LINE, {("wash", 9, 0): 7}, 5), tick_begins(LINE, {}, 5))

    def test_four_hundred_pieces(self):
        self.assertEqual(tick_begins(LONE, {}, 400), {"fill": tuple(range(0, 1600, 4))})
        self.assertEqual(tick_begins(LINE, {}, 400), {name: tuple(range(0, 1600, 4)) for name in ("fill", "sort", "wash")})

    def test_dead(self):
        dead = [hall for hall in some_halls(20, 80) if not is_live(hall)] + [DEAD]
        self.assertGreater(len(dead), 5)
        for hall in dead:
            for many in (0, 1, 400, 30000):
                self.assertEqual(raised(self, Dead, tick_begins, hall, {}, many).ring, dead_ring(hall))


class TooManyTest(unittest.TestCase):
    def check_many(self, hall, stops, many):
        self.assertEqual(raised(self, TooMany, tick_begins, hall, stops, many).most, LAST)

    def test_at_the_very_bound(self):
        hundred = ((("fill", 100, ()),), (), "fill")
        self.assertEqual(tick_begins(hundred, {}, 201)["fill"][-1], LAST)
        self.check_many(hundred, {}, 202)
        one = ((("fill", 1, ()),), (), "fill")
        self.assertEqual(tick_begins(one, {}, LAST + 1)["fill"], tuple(range(LAST + 1)))
        self.check_many(one, {}, LAST + 2)

    def test_at_the_very_bound_by_a_stop(self):
        hall = ((("fill", 1, ()), ("wash", 2, ((3, 0),))), (("wash", "fill", 1, 1),), "fill")
        self.assertEqual(tick_begins(hall, {("wash", 0, 0): LAST - 2}, 2), {"fill": (0, LAST), "wash": (0, LAST)})
        self.check_many(hall, {("wash", 0, 0): LAST - 1}, 2)
        self.assertEqual(tick_begins(hall, {("wash", 0, 0): 10 ** 12}, 1), {"fill": (0,), "wash": (0,)})

    def test_a_machine_that_is_no_filler(self):
        hall = ((("fill", 1, ()), ("wash", 2, ((3, 0),))), (("fill", "wash", 3, 0),), "fill")
        self.assertEqual(tick_begins(hall, {("wash", 0, 0): LAST - 3}, 2), {"fill": (0, 1), "wash": (1, LAST)})
        self.check_many(hall, {("wash", 0, 0): LAST - 2}, 2)

    def test_an_end_behind_the_bound_is_no_matter(self):
        hall = ((("fill", 19999, ()),), (), "fill")
        self.assertEqual(tick_begins(hall, {}, 2), {"fill": (0, 19999)})
        self.check_many(hall, {}, 3)


if __name__ == "__main__":
    unittest.main()
