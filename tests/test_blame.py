"""[34]: chains, and the stops that all chains of a piece have."""

import random
import unittest

from fillerfed.blame import chain, is_chain, needed_stops
from fillerfed.runs import begins
from fillerfed.walks import end_of_way, ended, index_of, is_way
from fillerfed.walkstops import ticks_with
from samples import (LONE, any_values, drawn_way, exchanged, frozen, leads, least_begins, let_stops, live_halls, own_pace, same_after,
                     time_at, with_pace)

MACHINES = (("cap", 2, ((2, 1),)), ("fill", 4, ()), ("wash", 2, ((3, 0),)))
FED = (MACHINES, (("wash", "fill", 1, 1), ("fill", "cap", 1, 0)), "fill")
STOPS = {("cap", 0, 0): 2, ("cap", 1, 0): 1, ("wash", 0, 0): 3}
LATE = ("wash", (("down", 0), ("next", "fill"), ("next", "fill")))


def chosen_halls():
    """LIVE HALLS with STOPS, LET or not, and some with few times and a small PACE."""
    dice = random.Random(190)
    found = []
    for hall, stops in live_halls(190, 110, 6):
        pace = dice.choice((None, 2, 3))
        found.append((with_pace(hall, pace) if pace else hall, stops if dice.random() < 0.5 else let_stops(dice, hall, 6)))
    return found + [(FED, STOPS), (FED, {}), (LONE, {})]


CASES = chosen_halls()


def all_chains(hall, stops, piece):
    """All CHAINS of a piece, each by its ARCS one by one; None if there are very many."""
    run = least_begins(hall, stops, piece + 1)
    found = []
    # From the piece back, by ARCS that let no piece be begun earlier.
    pile = [((hall[2], piece), ())]
    steps = 0
    while pile:
        (name, at), arcs = pile.pop()
        steps += 1
        if steps > 4000:
            return None
        if run[name][at] == 0:
            found.append((name, arcs))
        for arc, start, end, growth in leads(hall):
            if end == name and at >= growth:
                tick = run[start][at - growth] + (0 if arc[0] == "up" else time_at(hall, stops, start, at - growth))
                if tick == run[name][at]:
                    pile.append(((start, at - growth), (arc,) + arcs))
    return [way for way in found if sum(growth for arc in way[1] for row, _, _, growth in leads(hall) if row == arc) == piece]


def own_is_chain(hall, stops, piece, way):
    """Whether a WAY is a CHAIN, by the words of the definition."""
    rows = {row[0]: row[1:] for row in leads(hall)}
    here, index, ticks = way[0], 0, 0
    for arc in way[1]:
        start, end, growth = rows[arc]
        if start != here:
            return False
        if arc[0] != "up":
            ticks += time_at(hall, stops, start, index)
        here, index = end, index + growth
    return here == hall[2] and index == piece and ticks == least_begins(hall, stops, piece + 1)[hall[2]][piece]


class ChainTest(unittest.TestCase):
    def test_of_each_piece(self):
        long = 0
        for hall, stops in CASES:
            for piece in (0, 1, 2, 3, 7, 14):
                way = same_after(self, chain, hall, stops, piece)
                self.assertTrue(is_way(hall, way))
                self.assertTrue(own_is_chain(hall, stops, piece, way))
                self.assertEqual([end_of_way(hall, way), index_of(hall, way)], [hall[2], piece])
                self.assertIs(same_after(self, is_chain, hall, stops, piece, way), True)
                long += len(set(name for name, _ in ended(hall, way))) > 2
        self.assertGreater(long, 60)

    def test_each_one_on_it_is_begun_as_soon_as_the_one_ahead_lets_it(self):
        for hall, stops in CASES:
            way = chain(hall, stops, 9)
            run = begins(hall, stops, 10)
            rows = {row[0]: row[1:] for row in leads(hall)}
            here, index, tick = way[0], 0, 0
            for arc in way[1]:
                self.assertEqual(run[here][index], tick)
                tick += 0 if arc[0] == "up" else time_at(hall, stops, here, index)
                here, index = rows[arc][1], index + rows[arc][2]
            self.assertEqual(run[here][index], tick)

    def test_the_first_piece(self):
        for hall, stops in CASES:
            if begins(hall, stops, 1)[hall[2]][0] == 0:
                self.assertEqual(chain(hall, stops, 0), (hall[2], ()))
            else:
                self.assertGreater(len(chain(hall, stops, 0)[1]), 0)
        self.assertEqual([chain(LONE, {}, 0), chain(LONE, {}, 2)], [("fill", ()), ("fill", (("next", "fill"),) * 2)])

    def test_far(self):
        way = chain(FED, STOPS, 399)
        self.assertEqual([index_of(FED, way), ticks_with(FED, way, STOPS), is_chain(FED, STOPS, 399, way)], [399, 4 * 399 + 1, True])


class IsChainTest(unittest.TestCase):
    def test_all_chains_and_others(self):
        dice = random.Random(191)
        kinds = {True: 0, False: 0}
        for hall, stops in CASES:
            for piece in (0, 1, 3):
                for way in (all_chains(hall, stops, piece) or [])[:12]:
                    self.assertIs(is_chain(hall, stops, piece, way), True)
                    kinds[True] += 1
                for many in (0, 1, 2, 3, 4):
                    way = drawn_way(dice, hall, many)
                    told = own_is_chain(hall, stops, piece, way)
                    self.assertIs(is_chain(hall, stops, piece, way), told)
                    kinds[told] += 1
        self.assertGreater(min(kinds.values()), 500)

    def test_one_arc_less_or_more_or_another_piece(self):
        checked = 0
        for hall, stops in CASES:
            for piece in (1, 4):
                begin, arcs = chain(hall, stops, piece)
                run = begins(hall, stops, piece + 2)
                for other in ((begin, arcs[:-1]), (begin, arcs + arcs[-1:]), (begin, arcs + (("next", hall[2]),))):
                    told = is_way(hall, other) and own_is_chain(hall, stops, piece, other)
                    self.assertIs(is_chain(hall, stops, piece, other), told)
                    checked += not told
                for other in (piece - 1, piece + 1):
                    self.assertIs(is_chain(hall, stops, other, (begin, arcs)), False)
                self.assertIs(is_chain(hall, stops, piece + 1, (begin, arcs + (("next", hall[2]),))),
                              run[hall[2]][piece + 1] == run[hall[2]][piece] + own_pace(hall))
        self.assertGreater(checked, 200)

    def test_ways_that_come_to_the_filler_several_times(self):
        hall = ((("cap", 3, ((4, 0),)), ("fill", 3, ())), (("cap", "fill", 2, 1), ("fill", "cap", 2, 1)), "fill")
        way = ("cap", (("down", 0), ("down", 1), ("down", 0), ("next", "fill")))
        stops = {("cap", 0, 0): 2}
        self.assertEqual([own_is_chain(hall, stops, 4, way), is_chain(hall, stops, 4, way), is_chain(hall, {}, 4, way)], [True, True, True])
        late = {("cap", 2, 0): 1, ("cap", 0, 0): 2}
        self.assertEqual([is_chain(hall, late, 4, way), own_is_chain(hall, late, 4, way)], [True, True])
        other = {("cap", 1, 0): 1}
        self.assertEqual([is_chain(hall, other, 4, way), own_is_chain(hall, other, 4, way)], [False, False])

    def test_ways_that_end_elsewhere_or_take_less(self):
        for way in (("wash", ()), ("wash", (("down", 0), ("up", 0))), ("fill", (("down", 1),)), ("cap", ())):
            for piece in range(4):
                self.assertIs(is_chain(FED, STOPS, piece, way), False)
        self.assertEqual([is_chain(FED, STOPS, piece, ("fill", (("next", "fill"),) * piece)) for piece in range(4)], [True, False, False, False])
        self.assertEqual([is_chain(FED, {}, piece, ("fill", (("next", "fill"),) * piece)) for piece in range(4)], [True] * 4)
        self.assertEqual([is_chain(FED, STOPS, 3, LATE), is_chain(FED, STOPS, 2, LATE), is_chain(FED, {}, 3, LATE)], [True, False, False])

    def test_values_of_any_kind(self):
        for thing in any_values():
            for other in (thing, (thing, LATE[1]), ("wash", thing), ("wash", (thing,) + LATE[1][1:]), [thing, thing]):
                for piece in (0, 3):
                    self.assertIs(is_chain(FED, STOPS, piece, other), frozen(other) == frozen(LATE) and piece == 3)
        for other in exchanged(LATE):
            self.assertIs(is_chain(FED, STOPS, 3, other), False)
        for other in (LATE + (0,), LATE[:1], list(LATE), (LATE[0], list(LATE[1])), (LATE,), ("wash", (["down", 0],) + LATE[1][1:])):
            self.assertIs(is_chain(FED, STOPS, 3, other), False)


class NeededTest(unittest.TestCase):
    def own_needed(self, hall, stops, piece):
        """By leaving one tick out at each key."""
        tick = least_begins(hall, stops, piece + 1)[hall[2]][piece]
        found = []
        for key in sorted(stops):
            less = {other: ticks - (other == key) for other, ticks in stops.items() if other != key or ticks > 1}
            after = least_begins(hall, less, piece + 1)[hall[2]][piece]
            self.assertIn(tick - after, (0, 1))
            if after < tick:
                found.append(key)
        return tuple(found)

    def test_against_leaving_one_tick_out(self):
        kinds = {0: 0, 1: 0, 2: 0, "one tick": 0}
        for hall, stops in CASES:
            for piece in (0, 1, 3, 6, 11):
                told = self.own_needed(hall, stops, piece)
                self.assertEqual(frozen(same_after(self, needed_stops, hall, stops, piece)), frozen(told))
                kinds[min(2, len(told))] += 1
                kinds["one tick"] += any(stops[key] == 1 for key in told)
        self.assertGreater(min(kinds.values()), 25)

    def test_they_are_the_keys_that_all_chains_end(self):
        checked = 0
        for hall, stops in CASES:
            for piece in (1, 3):
                ways = all_chains(hall, stops, piece)
                if ways and stops:
                    pieces = [set(ended(hall, way)) for way in ways]
                    told = tuple(key for key in sorted(stops) if all(key[:2] in row for row in pieces))
                    self.assertEqual(needed_stops(hall, stops, piece), told)
                    checked += len(ways) > 1
        self.assertGreater(checked, 40)

    def test_chains_side_by_side(self):
        machines = (("cap", 2, ((9, 9),)), ("dip", 2, ((9, 9),)), ("fill", 4, ()), ("wash", 2, ((9, 9), (9, 9))))
        hall = (machines, (("wash", "cap", 9, 0), ("wash", "dip", 9, 0), ("cap", "fill", 9, 0), ("dip", "fill", 9, 0)), "fill")
        # What wash stops is on both ways, in both of its PURSES; what cap and dip stop is on one each.
        stops = {("wash", 0, 0): 3, ("wash", 0, 1): 1, ("cap", 0, 0): 5, ("dip", 0, 0): 5}
        self.assertEqual(needed_stops(hall, stops, 0), (("wash", 0, 0), ("wash", 0, 1)))
        self.assertEqual(needed_stops(hall, {**stops, ("cap", 0, 0): 6}, 0), (("cap", 0, 0), ("wash", 0, 0), ("wash", 0, 1)))
        self.assertEqual(needed_stops(hall, {**stops, ("cap", 3, 0): 99}, 0), (("wash", 0, 0), ("wash", 0, 1)))
        self.assertEqual(needed_stops(hall, {**stops, ("cap", 3, 0): 99}, 3), (("cap", 0, 0), ("cap", 3, 0), ("wash", 0, 0), ("wash", 0, 1)))

    def test_none_where_nothing_stops_or_belts_make_it_good(self):
        for hall, stops in CASES:
            self.assertEqual(needed_stops(hall, {}, 5), ())
        self.assertEqual([needed_stops(FED, STOPS, piece) for piece in (0, 1, 2, 3)], [(), (("wash", 0, 0),), (("wash", 0, 0),), (("wash", 0, 0),)])

    def test_far_behind(self):
        self.assertEqual([needed_stops(FED, STOPS, 399), needed_stops(FED, {("wash", 0, 0): 2}, 399)], [(("wash", 0, 0),), ()])
        stops = {("wash", piece, 0): 3 for piece in range(400)}
        self.assertEqual(needed_stops(FED, stops, 399), self.many_needed(stops))

    def many_needed(self, stops):
        """Wash takes 5 ticks at each piece, the FILLER 4: each piece of wash up to the last but one is on each CHAIN."""
        self.assertEqual(begins(FED, stops, 400)["fill"][399], 5 * 399)
        return tuple(("wash", piece, 0) for piece in range(399))


if __name__ == "__main__":
    unittest.main()
