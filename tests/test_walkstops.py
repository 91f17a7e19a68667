"""[23]: what ways take."""

import random
import unittest

from fillerfed.purses import are_let
from fillerfed.runs import begins, waits
from fillerfed.walkstops import gain_of, pays, stops_of, ticks_of, ticks_with, told_wait
from samples import check_new, drawn_walks, drawn_way, frozen, leads, least_begins, let_stops, live_halls, same_after, some_floors, some_stops, time_at

LINE = ((("cap", 2, ((2, 0),)), ("fill", 4, ()), ("wash", 2, ((3, 0),))), (("wash", "cap", 1, 1), ("cap", "fill", 1, 1)), "fill")
HALLS = [hall for hall, _ in live_halls(70, 150)]


def own_taken(hall, way):
    """The STOPS, TICKS and last INDEX of a WAY, with all contents kept piece by piece for each ARC."""
    machines = {name: (time, purses) for name, time, purses in hall[0]}
    rows = {arc: row for arc, *row in leads(hall)}
    contents = {(name, at): size for name, _, purses in hall[0] for at, (size, _) in enumerate(purses)}
    stops, ticks, index = {}, 0, 0
    for arc in way[1]:
        start, _, growth = rows[arc]
        if arc[0] != "up":
            ticks += machines[start][0]
            for at in range(len(machines[start][1])):
                if contents[(start, at)]:
                    stops[(start, index, at)] = contents[(start, at)]
                ticks += contents[(start, at)]
                contents[(start, at)] = 0
        for _ in range(growth):
            index += 1
            for name, at in contents:
                size, back = machines[name][1][at]
                contents[(name, at)] = min(size, contents[(name, at)] + back)
    return stops, ticks, index


def pace(hall):
    """The FILLER's time."""
    return {name: time for name, time, _ in hall[0]}[hall[2]]


class WaysTest(unittest.TestCase):
    def test_against_own_contents(self):
        dice = random.Random(71)
        empty = 0
        for hall in HALLS:
            for many in (0, 1, 2, 5, 25):
                way = drawn_way(dice, hall, many)
                stops, ticks, index = own_taken(hall, way)
                self.assertEqual(frozen(same_after(self, stops_of, hall, way)), frozen(dict(sorted(stops.items()))))
                self.assertEqual(same_after(self, ticks_of, hall, way), ticks)
                self.assertEqual(same_after(self, gain_of, hall, way), ticks - pace(hall) * index)
                self.assertTrue(are_let(hall, stops))
                check_new(self, stops_of, hall, way)
                counts = {name: len(purses) for name, _, purses in hall[0]}
                empty += sum(counts[start] for arc, start, _, _ in leads(hall) for one in way[1] if one == arc and arc[0] != "up") > len(stops)
        self.assertGreater(empty, 50)

    def test_two_purses_and_one_that_holds_nothing(self):
        hall = ((("fill", 4, ()), ("wash", 2, ((3, 0), (2, 1)))), (("wash", "fill", 2, 1),), "fill")
        way = ("wash", (("next", "wash"), ("next", "wash"), ("down", 0), ("up", 0), ("down", 0)))
        self.assertEqual(stops_of(hall, way), {("wash", 0, 0): 3, ("wash", 0, 1): 2, ("wash", 1, 1): 1, ("wash", 2, 1): 1, ("wash", 4, 1): 2})
        self.assertEqual([ticks_of(hall, way), gain_of(hall, way), told_wait(hall, way[:1] + (way[1][:3],))], [8 + 9, 17 - 20, (3, 1)])

    def test_a_way_that_comes_back_to_a_machine(self):
        way = ("cap", (("down", 1), ("up", 1), ("down", 1), ("next", "fill"), ("up", 1), ("up", 0), ("down", 0)))
        self.assertEqual([stops_of(LINE, way), ticks_of(LINE, way)], [{("cap", 0, 0): 2, ("wash", 3, 0): 3}, 2 + 2 + 2 + 4 + 2 + 3])

    def test_without_arcs(self):
        self.assertEqual([stops_of(LINE, ("cap", ())), ticks_of(LINE, ("cap", ())), gain_of(LINE, ("fill", ()))], [{}, 0, 0])
        self.assertEqual([gain_of(LINE, ("fill", (("up", 1), ("up", 0)))), stops_of(LINE, ("fill", (("up", 1),)))], [0, {}])

    def test_long_ways(self):
        self.assertEqual([ticks_of(LINE, ("cap", (("next", "cap"),) * 3000)), gain_of(LINE, ("cap", (("next", "cap"),) * 3000))], [6002, -5998])
        hall = ((("fill", 4, ()), ("wash", 2, ((3, 1),))), (("wash", "fill", 1, 1),), "fill")
        self.assertEqual(len(stops_of(hall, ("wash", (("next", "wash"),) * 3000))), 3000)


class TicksWithTest(unittest.TestCase):
    def test_of_stops_that_are_let_and_of_others(self):
        dice = random.Random(72)
        for hall in HALLS:
            way = drawn_way(dice, hall, 12)
            ended = {}
            rows = {arc: row for arc, *row in leads(hall)}
            index = 0
            for arc in way[1]:
                if arc[0] != "up":
                    ended[(rows[arc][0], index)] = True
                index += rows[arc][2]
            for stops, let in ((let_stops(dice, hall), True), (some_stops(dice, hall), False), ({}, True), (stops_of(hall, way), True)):
                found = same_after(self, ticks_with, hall, way, stops)
                self.assertEqual(found, sum(time_at(hall, stops, name, piece) for name, piece in ended))
                if let:
                    self.assertLessEqual(found, ticks_of(hall, way))
            self.assertEqual(ticks_with(hall, way, stops_of(hall, way)), ticks_of(hall, way))

    def test_stops_at_other_pieces(self):
        walk = ("wash", (("down", 0), ("down", 1)))
        self.assertEqual([ticks_with(LINE, walk, {("cap", 0, 0): 2, ("wash", 1, 0): 3}), ticks_with(LINE, walk, {("cap", 1, 0): 9})], [4, 13])


class PaysTest(unittest.TestCase):
    def test_gains_of_0_and_1(self):
        walk = ("wash", (("down", 0), ("down", 1)))
        just = ((("cap", 2, ((2, 0),)), ("fill", 4, ()), ("wash", 2, ((2, 0),))),) + LINE[1:]
        self.assertEqual([gain_of(just, walk), pays(just, walk), told_wait(just, walk)], [0, False, None])
        self.assertEqual([gain_of(LINE, walk), pays(LINE, walk), told_wait(LINE, walk)], [1, True, (2, 1)])
        self.assertEqual([pays(LINE, ("fill", (("next", "fill"),))), told_wait(LINE, ("cap", (("next", "cap"), ("down", 1))))], [False, None])

    def test_the_filler_waits_in_every_run(self):
        dice = random.Random(73)
        paying = 0
        for hall in HALLS:
            for walk in drawn_walks(dice, hall, 8, 15):
                _, ticks, index = own_taken(hall, walk)
                gain = ticks - pace(hall) * index
                self.assertIs(same_after(self, pays, hall, walk), gain > 0)
                self.assertEqual(same_after(self, told_wait, hall, walk), (index, gain) if gain > 0 else None)
                if gain > 0:
                    paying += 1
                    stops = stops_of(hall, walk)
                    self.assertGreaterEqual(waits(hall, stops, index + 1)[index], gain)
                    late = least_begins(hall, stops, index + 1, some_floors(dice, hall, index + 1))
                    self.assertGreaterEqual(late[hall[2]][index] - index * pace(hall), gain)
        self.assertGreater(paying, 100)

    def test_each_begin_is_what_some_way_tells(self):
        dice = random.Random(74)
        for hall, stops in live_halls(74, 40, 4):
            for stops in (stops, let_stops(dice, hall)):
                run = begins(hall, stops, 5)
                # WAYS with where they stand; of those at one piece only that with the most ticks is led on.
                ways = [((name, ()), name, 0) for name, _, _ in hall[0]]
                best = {}
                while ways:
                    for way, here, index in ways:
                        ticks = ticks_with(hall, way, stops)
                        self.assertLessEqual(ticks, run[here][index])
                        if (here, index) not in best or best[(here, index)][0] < ticks:
                            best[(here, index)] = (ticks, way)
                    ways = [((way[0], way[1] + (arc,)), end, index + growth) for way, here, index in ways if best[(here, index)][1] == way
                            for arc, start, end, growth in leads(hall) if start == here and index + growth < 5]
                self.assertEqual({name: tuple(best[(name, piece)][0] for piece in range(5)) for name in run}, run)


if __name__ == "__main__":
    unittest.main()
