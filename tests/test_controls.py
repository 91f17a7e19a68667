"""[27]: runs in which machines wait; [5]: no run begins a piece earlier than the one left alone."""

import random
import unittest

from fillerfed.controls import carded, floors_of, greatest_run, held_back, is_earlier, is_run, keeps, latest, least_run, waits_in
from fillerfed.runs import begins, waits
from samples import (HALL, LONE, NEVER_RIGHT, any_values, check_new, exchanged, frozen, leads, least_begins, let_stops, live_halls, same_after,
                     some_floors, time_at)

LINE = ((("cap", 2, ((2, 0),)), ("fill", 3, ()), ("wash", 2, ())), (("wash", "cap", 2, 0), ("cap", "fill", 1, 1)), "fill")
DRAWN = live_halls(110, 200)


def own_is_run(hall, stops, run):
    """Whether a dict from names to tuples of as many integers each is a RUN, by the rows of the definition."""
    many = len(run[hall[2]])
    for name in run:
        for piece in range(1, many):
            if run[name][piece] < run[name][piece - 1] + time_at(hall, stops, name, piece - 1):
                return False
    for start, end, room, first in hall[1]:
        for piece in range(first, many):
            if run[end][piece] < run[start][piece - first] + time_at(hall, stops, start, piece - first):
                return False
        for piece in range(room - first, many):
            if run[start][piece] < run[end][piece + first - room]:
                return False
    return all(tick >= 0 for row in run.values() for tick in row)


def own_keeps(hall, stops, run, cards):
    """Whether a RUN KEEPS CARDS, by the words of the definition."""
    for ahead, behind, many in cards:
        for piece in range(many, len(run[ahead])):
            if run[ahead][piece] < run[behind][piece - many] + time_at(hall, stops, behind, piece - many):
                return False
    return True


def some_cards(dice, hall, most=3):
    """A few CARDS, of machines that are unlike; none of a HALL of one machine."""
    names = [name for name, _, _ in hall[0]]
    if len(names) < 2:
        return []
    return [tuple(dice.sample(names, 2)) + (dice.randint(1, 4),) for _ in range(dice.randint(0, most))]


def some_runs(seed, many=8):
    """Tuples (hall, stops, run) with RUNS LEFT ALONE and such in which machines wait."""
    dice = random.Random(seed)
    found = []
    for hall, stops in DRAWN:
        found.append((hall, stops, least_begins(hall, stops, many)))
        found.append((hall, stops, least_begins(hall, stops, many, some_floors(dice, hall, many), some_cards(dice, hall))))
    return found


class IsRunTest(unittest.TestCase):
    def test_left_alone_and_with_waits(self):
        for hall, stops, run in some_runs(111):
            self.assertIs(same_after(self, is_run, hall, stops, run), True)
            self.assertIs(is_run(hall, stops, dict(sorted(run.items(), reverse=True))), True)
            self.assertIs(is_run(hall, stops, {name: row[:3] for name, row in run.items()}), True)
            self.assertIs(is_run(hall, stops, {name: () for name in run}), True)

    def test_one_begin_otherwise(self):
        dice = random.Random(112)
        kinds = {True: 0, False: 0}
        for hall, stops, run in some_runs(112):
            for _ in range(6):
                name, piece = dice.choice(list(run)), dice.randrange(8)
                tick = run[name][piece] + dice.choice((-9, -2, -1, 1, 2, 30))
                other = {**run, name: run[name][:piece] + (tick,) + run[name][piece + 1:]}
                told = own_is_run(hall, stops, other)
                self.assertIs(same_after(self, is_run, hall, stops, other), told)
                kinds[told] += 1
        self.assertGreater(min(kinds.values()), 60)

    def test_of_other_stops(self):
        dice = random.Random(113)
        kinds = {True: 0, False: 0}
        for hall, stops, run in some_runs(113):
            for other in ({}, let_stops(dice, hall)):
                told = own_is_run(hall, other, run)
                self.assertIs(is_run(hall, other, run), told)
                kinds[told] += 1
        self.assertGreater(min(kinds.values()), 40)

    def test_no_begin_below_0(self):
        hall = ((("fill", 4, ()), ("wash", 2, ())), (("wash", "fill", 3, 2),), "fill")
        self.assertEqual([is_run(hall, {}, {"fill": (0, 4), "wash": (tick, 2)}) for tick in (-1, 0, 1)], [False, True, False])
        self.assertEqual([is_run(LONE, {}, {"fill": (tick,)}) for tick in (-1, 0, 1, 10 ** 40)], [False, True, True, True])

    def test_machines_and_lengths(self):
        run = {"cap": (2, 6), "fill": (0, 6), "wash": (0, 2)}
        stops = {("cap", 0, 0): 2}
        self.assertIs(is_run(LINE, stops, run), True)
        for thing in ({"cap": (2, 6), "fill": (0, 6)}, {**run, "x": (0, 2)}, {**run, "x": ()}, {**run, "wash": (0,)}, {**run, "wash": (0, 2, 4)}, {**run, "cap": ()},
                      {**run, "fill": ()}, {**run, "cap": [2, 6]}, {**run, "wash": (0, True)}, {**run, "wash": (False, 2)}, {**run, "wash": None},
                      {**run, "wash": 2}, {**run, "cap": 0, "fill": 1, "wash": 2}, {**run, "cap": "ab"}, {**run, "cap": {0: 2, 1: 6}}, {**run, "cap": (2, 6.0)},
                      {**run, "cap": (2, None)}, {**run, "cap": 7}, list(run.items()), tuple(run.items()), {}, {"cap": (), "fill": ()}, None,
                      {("cap",): (), "fill": (), "wash": ()}, {None: (2, 6), "fill": (0, 6), "wash": (0, 2)}, {0: (2, 6), "fill": (0, 6), "wash": (0, 2)}):
            self.assertIs(same_after(self, is_run, LINE, stops, thing), False, thing)
        self.assertIs(is_run(LINE, stops, {"cap": (), "fill": (), "wash": ()}), True)

    def test_one_part_otherwise(self):
        run = {"cap": (2, 6), "fill": (0, 6), "wash": (0, 2)}
        for name in run:
            for thing in exchanged(run[name], NEVER_RIGHT):
                self.assertIs(is_run(LINE, {("cap", 0, 0): 2}, {**run, name: thing}), False, (name, thing))

    def test_any_value(self):
        for hall in (LINE, LONE, HALL):
            for thing in any_values():
                self.assertIs(is_run(hall, {}, thing), False)
                self.assertIs(is_run(hall, {}, {name: thing for name, _, _ in hall[0]}), type(thing) is tuple and own_rows(hall, thing))
                self.assertIs(is_run(hall, {}, {name: (thing,) for name, _, _ in hall[0]}), type(thing) is int and thing >= 0 and own_rows(hall, (thing,)))


def own_rows(hall, row):
    """Whether this row of all machines is a RUN without STOPS; of what is no integer none is."""
    if not all(type(tick) is int for tick in row):
        return False
    return own_is_run(hall, {}, {name: row for name, _, _ in hall[0]})


class WaitsInTest(unittest.TestCase):
    def test_waits(self):
        for hall, stops, run in some_runs(114):
            pace = dict((name, time) for name, time, _ in hall[0])[hall[2]]
            found = same_after(self, waits_in, hall, run)
            self.assertEqual(found, tuple(tick - piece * pace for piece, tick in enumerate(run[hall[2]])))
            self.assertIs(type(found), tuple)
        for hall, stops in DRAWN:
            self.assertEqual(waits_in(hall, begins(hall, stops, 9)), waits(hall, stops, 9))
        self.assertEqual(waits_in(LINE, {"cap": (), "fill": (), "wash": ()}), ())


class TwoRunsTest(unittest.TestCase):
    def pairs(self, seed):
        """Tuples (hall, stops, one, other), two RUNS each."""
        dice = random.Random(seed)
        for hall, stops in DRAWN:
            rows = [least_begins(hall, stops, 7, some_floors(dice, hall, 7), some_cards(dice, hall)) for _ in range(2)]
            yield (hall, stops, rows[0], dict(sorted(rows[1].items(), reverse=True)))

    def test_is_earlier(self):
        kinds = {True: 0, False: 0}
        for hall, stops, one, other in self.pairs(115):
            for first, second in ((one, other), (other, one)):
                told = all(first[name][piece] <= second[name][piece] for name in first for piece in range(7))
                self.assertIs(same_after(self, is_earlier, first, second), told)
                kinds[told] += 1
            self.assertIs(is_earlier(one, one), True)
            self.assertIs(is_earlier(begins(hall, stops, 7), other), True)
        self.assertGreater(min(kinds.values()), 20)
        self.assertIs(is_earlier({"fill": ()}, {"fill": ()}), True)

    def test_greatest_and_least(self):
        unlike = 0
        for hall, stops, one, other in self.pairs(116):
            for call, pick in ((greatest_run, max), (least_run, min)):
                for first, second in ((one, other), (other, one)):
                    found = same_after(self, call, first, second)
                    self.assertEqual(frozen(found), frozen({name: tuple(pick(one[name][piece], other[name][piece]) for piece in range(7)) for name in sorted(one)}))
                    self.assertIs(is_run(hall, stops, found), True)
                    unlike += found not in (one, other)
                check_new(self, call, one, other)
                check_new(self, call, one, one)
        self.assertGreater(unlike, 20)


class HeldBackTest(unittest.TestCase):
    def test_against_raised_begins(self):
        dice = random.Random(117)
        later = 0
        for hall, stops in DRAWN:
            for _ in range(3):
                floors = some_floors(dice, hall, 14)
                found = same_after(self, held_back, hall, stops, floors, 9)
                self.assertEqual(list(found), sorted(found))
                self.assertEqual(found, least_begins(hall, stops, 9, floors))
                self.assertIs(is_run(hall, stops, found), True)
                self.assertTrue(all(found[name][piece] >= tick for (name, piece), tick in floors.items() if piece < 9))
                self.assertEqual(found, held_back(hall, stops, {key: tick for key, tick in floors.items() if key[1] < 9}, 9))
                alone = begins(hall, stops, 9)
                self.assertIs(is_earlier(alone, found), True)
                later += found != alone
                check_new(self, held_back, hall, stops, floors, 9)
        self.assertGreater(later, 80)

    def test_of_a_run_it_is_this_run(self):
        for hall, stops, run in some_runs(118):
            self.assertEqual(held_back(hall, stops, floors_of(run), 8), run)
            self.assertEqual(held_back(hall, stops, floors_of(run), 5), {name: row[:5] for name, row in run.items()})

    def test_floors_of_none_and_of_no_pieces(self):
        for hall, stops in DRAWN:
            self.assertEqual(held_back(hall, stops, {}, 9), begins(hall, stops, 9))
        self.assertEqual(held_back(LINE, {}, {("wash", 0): 5}, 0), {"cap": (), "fill": (), "wash": ()})
        self.assertEqual(held_back(LINE, {}, {("wash", 400): 5, ("fill", 2): 0}, 2), begins(LINE, {}, 2))

    def test_floors_of(self):
        for hall, stops, run in some_runs(119):
            found = same_after(self, floors_of, dict(sorted(run.items(), reverse=True)))
            self.assertEqual(frozen(found), frozen({(name, piece): run[name][piece] for name in sorted(run) for piece in range(8)}))
        self.assertEqual(floors_of({"fill": (), "cap": ()}), {})
        check_new(self, floors_of, {"fill": (0, 4)})


class CardsTest(unittest.TestCase):
    def test_keeps(self):
        dice = random.Random(120)
        kinds = {True: 0, False: 0}
        for hall, stops, run in some_runs(120):
            cards = some_cards(dice, hall)
            told = own_keeps(hall, stops, run, cards)
            self.assertIs(same_after(self, keeps, hall, stops, run, cards), told)
            self.assertIs(same_after(self, keeps, hall, stops, run, tuple(cards)), told)
            kinds[told] += bool(cards)
            self.assertIs(keeps(hall, stops, run, ()), True)
            self.assertIs(keeps(hall, stops, run, []), True)
        self.assertGreater(min(kinds.values()), 20)

    def test_carded(self):
        dice = random.Random(121)
        later = 0
        for hall, stops in DRAWN:
            for _ in range(3):
                cards = some_cards(dice, hall)
                found = same_after(self, carded, hall, stops, cards, 9)
                self.assertEqual(list(found), sorted(found))
                self.assertEqual(found, least_begins(hall, stops, 9, None, cards))
                self.assertEqual(carded(hall, stops, tuple(cards), 9), found)
                self.assertIs(is_run(hall, stops, found), True)
                self.assertIs(keeps(hall, stops, found, cards), True)
                # No RUN that KEEPS them begins earlier, and more CARDS begin no piece earlier.
                other = least_begins(hall, stops, 9, some_floors(dice, hall, 9), cards)
                self.assertIs(is_earlier(found, other), True)
                more = carded(hall, stops, cards + some_cards(dice, hall, 1), 9)
                self.assertIs(is_earlier(found, more), True)
                later += found != begins(hall, stops, 9)
                check_new(self, carded, hall, stops, cards, 9)
        self.assertGreater(later, 40)

    def test_none_and_several(self):
        alone = begins(LINE, {}, 5)
        self.assertEqual([carded(LINE, {}, (), 5), carded(LINE, {}, [], 5), carded(LINE, {}, [("wash", "fill", 5)], 5)], [alone] * 3)
        self.assertEqual(carded(LINE, {}, [("wash", "fill", 1)], 0), {"cap": (), "fill": (), "wash": ()})
        both = [("wash", "cap", 1), ("cap", "wash", 1)]
        found = carded(LINE, {}, both, 5)
        self.assertEqual(found, least_begins(LINE, {}, 5, None, both))
        self.assertEqual(found["wash"], (0, 4, 8, 12, 16))
        twice = [("wash", "fill", 2), ("wash", "fill", 1)]
        self.assertEqual(carded(LINE, {}, twice, 5), carded(LINE, {}, twice[1:], 5))
        self.assertEqual([keeps(LINE, {}, alone, twice), keeps(LINE, {}, carded(LINE, {}, twice, 5), twice)], [False, True])

    def test_it_is_at_ends_that_cards_come_back(self):
        run = {"cap": (2, 6), "fill": (0, 6), "wash": (0, 3)}
        self.assertEqual([keeps(LINE, {}, {**run, "wash": (0, tick)}, [("wash", "fill", 1)]) for tick in (2, 3)], [False, True])
        self.assertEqual([keeps(LINE, {("cap", 0, 0): ticks}, run, [("fill", "cap", 1)]) for ticks in (1, 2, 3)], [True, True, False])
        self.assertIs(keeps(LINE, {}, run, [("wash", "fill", 2)]), True)


class LatestTest(unittest.TestCase):
    def test_against_own_sums(self):
        dice = random.Random(122)
        for hall, stops in DRAWN:
            for piece in (0, 1, dice.randint(2, 9)):
                best = {(hall[2], piece): 0}
                changed = True
                while changed:
                    changed = False
                    for (name, at), behind in list(best.items()):
                        for arc, start, end, growth in leads(hall):
                            if end == name and at >= growth:
                                ticks = behind + (time_at(hall, stops, start, at - growth) if arc[0] != "up" else 0)
                                if best.get((start, at - growth), -1) < ticks:
                                    best[(start, at - growth)] = ticks
                                    changed = True
                tick = begins(hall, stops, piece + 1)[hall[2]][piece]
                found = same_after(self, latest, hall, stops, piece)
                self.assertEqual(frozen(found), frozen({key: tick - best[key] for key in sorted(best)}))
                check_new(self, latest, hall, stops, piece)

    def test_no_later_than_told_is_not_late(self):
        dice = random.Random(123)
        for hall, stops in DRAWN:
            piece = dice.randint(0, 8)
            told = latest(hall, stops, piece)
            alone = begins(hall, stops, piece + 1)
            self.assertTrue(all(0 <= alone[name][at] <= tick for (name, at), tick in told.items()))
            run = held_back(hall, stops, told, piece + 1)
            self.assertEqual(run[hall[2]][piece], alone[hall[2]][piece])
            self.assertTrue(all(run[name][at] == tick for (name, at), tick in told.items()))
            key = dice.choice(list(told))
            late = held_back(hall, stops, {key: told[key] + 1}, piece + 1)
            self.assertEqual(late[hall[2]][piece], alone[hall[2]][piece] + 1)

    def test_edges(self):
        self.assertEqual([latest(LONE, {}, 0), latest(LONE, {}, 2)], [{("fill", 0): 0}, {("fill", 0): 0, ("fill", 1): 4, ("fill", 2): 8}])
        # The FILLER's first piece could wait till 2, as cap waits for it, too: up its belt, and down it again.
        self.assertEqual(latest(LINE, {("cap", 0, 0): 2}, 1), {("cap", 0): 2, ("fill", 0): 2, ("fill", 1): 6, ("wash", 0): 0})
        self.assertEqual(latest(LINE, {}, 0), {("fill", 0): 0})
        self.assertEqual(len(latest(LINE, {}, 399)), 400 + 399 + 399)


if __name__ == "__main__":
    unittest.main()
