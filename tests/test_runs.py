"""[19]: runs left alone, found by what each begin waits for."""

import random
import unittest

from fillerfed.errors import Dead, TooMany
from fillerfed.halls import with_belt, with_time
from fillerfed.rings import dead_ring, is_live
from fillerfed.runs import begins, ends, first_wait, tight_arcs, waits
from fillerfed.ticks import tick_begins
from samples import (DEAD, HALL, LONE, check_new, leads, least_begins, let_stops, live_halls, raised, same_after, some_floors, some_hall,
                     some_halls, some_stops, time_at)

LINE = ((("fill", 4, ()), ("sort", 2, ((2, 0),)), ("wash", 2, ((3, 1),))), (("wash", "sort", 1, 1), ("sort", "fill", 1, 1)), "fill")


def great_halls(seed, rounds):
    """LIVE HALLS of eight machines and twelve BELTS."""
    dice = random.Random(seed)
    found = []
    while len(found) < rounds:
        hall = some_hall(dice, 8, 5)
        if len(hall[1]) == 12 and is_live(hall):
            found.append(hall)
    return found


def pace(hall):
    """The FILLER's time."""
    return {name: time for name, time, _ in hall[0]}[hall[2]]


class BeginsTest(unittest.TestCase):
    def check_no_earlier(self, one, other):
        """No piece is begun later in the first RUN than in the second one."""
        for name in one:
            for early, late in zip(one[name], other[name]):
                self.assertLessEqual(early, late)

    def test_as_tick_begins(self):
        dice = random.Random(30)
        told = 0
        for hall, stops in live_halls(30, 240):
            for stops in (stops, let_stops(dice, hall, 20), {}):
                many = dice.choice((0, 1, 2, 5, 12, 25))
                found = same_after(self, begins, hall, stops, many)
                self.assertEqual(list(found), sorted(name for name, _, _ in hall[0]))
                self.assertEqual({type(row) for row in found.values()}, {tuple})
                self.assertEqual(found, tick_begins(hall, stops, many))
                told += 1
                check_new(self, begins, hall, stops, many)
        self.assertGreater(told, 200)

    def test_all_sizes_and_kinds_of_belts_are_drawn(self):
        halls = [hall for hall, _ in live_halls(30, 240)]
        self.assertEqual({len(hall[0]) for hall in halls}, set(range(1, 9)))
        belts = [belt for hall in halls for belt in hall[1]]
        self.assertTrue([belt for belt in belts if belt[3] == 0])
        self.assertTrue([belt for belt in belts if belt[3] == belt[2]])
        self.assertTrue([belt for belt in belts if 0 < belt[3] < belt[2]])

    def test_two_hundred_pieces_of_great_halls(self):
        dice = random.Random(31)
        for hall in great_halls(31, 6):
            stops = let_stops(dice, hall, 200)
            self.assertEqual(begins(hall, stops, 200), least_begins(hall, stops, 200))
            few = begins(hall, stops, 30)
            self.assertEqual(few, tick_begins(hall, stops, 30))
            self.assertEqual(few, {name: row[:30] for name, row in begins(hall, stops, 200).items()})

    def test_behind_the_tick_at_which_ticks_end(self):
        hall = ((("fill", 100, ()), ("wash", 2, ((3, 1),))), (("wash", "fill", 1, 1),), "fill")
        raised(self, TooMany, tick_begins, hall, {}, 300)
        self.assertEqual(begins(hall, {}, 300)["fill"], tuple(range(0, 30000, 100)))
        stops = {("wash", 0, 0): 10 ** 30}
        self.assertEqual(begins(hall, stops, 2)["fill"], (0, 10 ** 30 + 2))
        self.assertEqual(begins(hall, stops, 400), least_begins(hall, stops, 400))

    def test_begins_with_fewer_pieces(self):
        for hall, stops in live_halls(32, 60):
            many = begins(hall, stops, 20)
            for few in (0, 1, 7, 19):
                self.assertEqual(begins(hall, stops, few), {name: row[:few] for name, row in many.items()})

    def test_more_stops_and_greater_times(self):
        dice = random.Random(33)
        for hall, stops in live_halls(33, 80):
            run = begins(hall, stops, 15)
            more = dict(stops)
            for key, ticks in some_stops(dice, hall).items():
                more[key] = more.get(key, 0) + ticks
            self.check_no_earlier(run, begins(hall, more, 15))
            name, time, _ = dice.choice(hall[0])
            self.check_no_earlier(run, begins(with_time(hall, name, time + 1), stops, 15))

    def test_room_and_belts(self):
        dice = random.Random(34)
        checked = [0, 0, 0]
        for hall, stops in live_halls(34, 160):
            run = begins(hall, stops, 15)
            for index, (_, _, room, first) in enumerate(hall[1]):
                more = dice.randint(1, 3)
                self.check_no_earlier(begins(with_belt(hall, index, room + more, first + more), stops, 15), run)
                checked[0] += 1
                less = with_belt(hall, index, room - 1, first) if first < room and room > 1 else DEAD
                if is_live(less):
                    self.check_no_earlier(run, begins(less, stops, 15))
                    checked[1] += 1
                out = (hall[0], hall[1][:index] + hall[1][index + 1:], hall[2])
                self.check_no_earlier(begins(out, stops, 15), run)
                checked[2] += 1
        self.assertGreater(min(checked), 50)

    def test_dead(self):
        dead = [hall for hall in some_halls(35, 80) if not is_live(hall)] + [DEAD]
        self.assertGreater(len(dead), 5)
        for hall in dead:
            for many in (0, 1, 400):
                for call in (begins, ends, waits, first_wait):
                    self.assertEqual(raised(self, Dead, call, hall, {}, many).ring, dead_ring(hall))

    def test_no_machine_of_a_dead_ring_is_needed_for_what_can_be_begun(self):
        # The FILLER alone could begin a piece; the HALL is not LIVE for all that.
        hall = ((("a", 1, ()), ("b", 1, ()), ("fill", 4, ())), (("a", "b", 1, 0), ("b", "a", 1, 0), ("fill", "a", 2, 0)), "fill")
        self.assertEqual(raised(self, Dead, begins, hall, {}, 1).ring, dead_ring(hall))


class EndsTest(unittest.TestCase):
    def test_ends(self):
        for hall, stops in live_halls(36, 60):
            run = begins(hall, stops, 12)
            found = same_after(self, ends, hall, stops, 12)
            self.assertEqual(list(found), list(run))
            self.assertEqual(found, {name: tuple(tick + time_at(hall, stops, name, piece) for piece, tick in enumerate(row))
                                     for name, row in run.items()})
            self.assertEqual({type(row) for row in found.values()}, {tuple})
            check_new(self, ends, hall, stops, 12)

    def test_of_all_purses_and_of_no_pieces(self):
        stops = {("wash", 0, 0): 3, ("wash", 0, 1): 2}
        self.assertEqual(ends(HALL, stops, 1), {"cap": (6,), "fill": (4,), "wash": (7,)})
        self.assertEqual(ends(HALL, stops, 0), {"cap": (), "fill": (), "wash": ()})


class WaitsTest(unittest.TestCase):
    def test_waits_and_the_first_one(self):
        waiting = 0
        for hall, stops in live_halls(37, 120):
            found = same_after(self, waits, hall, stops, 14)
            row = begins(hall, stops, 14)[hall[2]]
            self.assertEqual(found, tuple(tick - piece * pace(hall) for piece, tick in enumerate(row)))
            self.assertIs(type(found), tuple)
            self.assertGreaterEqual(min(found), 0)
            for many in (0, 1, 5, 14):
                late = [piece for piece in range(many) if found[piece] > 0]
                self.assertEqual(same_after(self, first_wait, hall, stops, many), late[0] if late else None)
            waiting += max(found) > 0
        self.assertGreater(waiting, 20)

    def test_none_below_the_first_one(self):
        stops = {("wash", 0, 0): 3, ("sort", 1, 0): 2}
        self.assertEqual([first_wait(LINE, stops, many) for many in range(5)], [None, None, None, 2, 2])
        self.assertEqual([waits(LINE, stops, 0), waits(LONE, {}, 5), first_wait(LONE, {}, 400)], [(), (0,) * 5, None])

    def test_at_piece_0(self):
        hall = ((("fill", 4, ()), ("wash", 2, ((3, 1),))), (("wash", "fill", 1, 0),), "fill")
        self.assertEqual([waits(hall, {}, 2), first_wait(hall, {}, 1), first_wait(hall, {}, 0)], [(2, 2), 0, None])


class TightArcsTest(unittest.TestCase):
    def check_tight(self, hall, stops, run, many):
        """Each piece's tight ARCS are those that the definition tells."""
        tight = 0
        for name, row in run.items():
            for piece in range(many):
                told = []
                for arc, start, end, growth in leads(hall):
                    if end == name and piece >= growth:
                        tick = run[start][piece - growth]
                        if arc[0] != "up":
                            tick += time_at(hall, stops, start, piece - growth)
                        if tick == row[piece]:
                            told.append(arc)
                self.assertEqual(same_after(self, tight_arcs, hall, stops, run, name, piece), tuple(told))
                tight += len(told)
        return tight

    def test_left_alone(self):
        for hall, stops in live_halls(38, 40):
            run = begins(hall, stops, 8)
            self.check_tight(hall, stops, run, 8)
            for name, row in run.items():
                for piece, tick in enumerate(row):
                    self.assertTrue(tick == 0 or tight_arcs(hall, stops, run, name, piece))

    def test_where_machines_wait(self):
        dice = random.Random(39)
        fewer = 0
        for hall, stops in live_halls(39, 60):
            run = least_begins(hall, stops, 8, some_floors(dice, hall, 8))
            tight = self.check_tight(hall, stops, dict(sorted(run.items(), reverse=True)), 8)
            fewer += tight < self.check_tight(hall, stops, begins(hall, stops, 8), 8)
        self.assertGreater(fewer, 5)

    def test_pieces_below_0_are_none(self):
        hall = ((("fill", 4, ()), ("wash", 2, ())), (("wash", "fill", 3, 2),), "fill")
        run = begins(hall, {}, 3)
        # The second piece of wash is just behind its first one; the belt asks it nothing, as it asks the FILLER's third.
        self.assertEqual(run, {"fill": (0, 4, 8), "wash": (0, 2, 4)})
        self.assertEqual([tight_arcs(hall, {}, run, "wash", piece) for piece in range(3)], [(), (("next", "wash"),), (("next", "wash"), ("up", 0))])
        self.assertEqual([tight_arcs(hall, {}, run, "fill", piece) for piece in range(3)], [(), (("next", "fill"),), (("next", "fill"),)])

    def test_several_belts_between_the_same_two(self):
        hall = ((("fill", 4, ()), ("wash", 4, ())), (("wash", "fill", 1, 1), ("wash", "fill", 2, 2), ("fill", "wash", 2, 1)), "fill")
        run = begins(hall, {}, 3)
        self.assertEqual(tight_arcs(hall, {}, run, "fill", 2), (("next", "fill"), ("down", 0)))
        self.assertEqual(tight_arcs(hall, {}, run, "wash", 2), (("next", "wash"), ("up", 0), ("up", 1), ("down", 2)))
        self.assertEqual(tight_arcs(hall, {}, run, "fill", 0), ())
        self.assertEqual(tight_arcs(hall, {}, run, "wash", 0), (("up", 0), ("up", 1)))


if __name__ == "__main__":
    unittest.main()
