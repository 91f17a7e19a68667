"""[35]: to which machines a loss is booked; [10]: what is promised of it."""

import itertools
import random
import unittest

from fillerfed.blame import chain
from fillerfed.booking import booked, frees, least_lots, lost_at, saved
from fillerfed.runs import waits
from fillerfed.walks import ended, index_of
from samples import HALL, LONE, check_new, drawn_walks, frozen, least_begins, let_stops, live_halls, own_pace, same_after, with_pace

MACHINES = (("cap", 2, ((2, 1),)), ("fill", 4, ()), ("wash", 2, ((3, 0),)))
FED = (MACHINES, (("wash", "fill", 1, 1), ("fill", "cap", 1, 0)), "fill")
STOPS = {("cap", 0, 0): 2, ("cap", 1, 0): 1, ("wash", 0, 0): 3}
LATE = ("wash", (("down", 0), ("next", "fill"), ("next", "fill")))


def chosen_halls():
    """LIVE HALLS with STOPS, LET or not, some with a greater PACE."""
    dice = random.Random(200)
    found = []
    for hall, stops in live_halls(200, 120, 7):
        pace = dice.choice((None, 4, 6, 9))
        found.append((with_pace(hall, pace) if pace else hall, stops if dice.random() < 0.6 else let_stops(dice, hall, 6)))
    return found + [(FED, STOPS), (FED, {}), (LONE, {}), (HALL, {("cap", 0, 0): 4, ("wash", 1, 0): 2, ("wash", 1, 1): 3})]


def own_waits(hall, stops, many):
    pace = own_pace(hall)
    return [tick - at * pace for at, tick in enumerate(least_begins(hall, stops, many)[hall[2]])]


def late_halls(seed, rounds):
    """LIVE HALLS whose FILLER never WAITS without STOPS, with a small PACE, and STOPS of several machines."""
    dice = random.Random(seed)
    found = []
    for hall, _ in live_halls(seed, rounds, 7):
        paces = [pace for pace in range(1, 14) if own_waits(with_pace(hall, pace), {}, 9)[-1] == 0]
        places = [(name, index) for name, _, purses in hall[0] for index in range(len(purses))]
        if paces and len(places) > 1:
            stops = {(name, dice.randrange(3), index): dice.randint(1, 7) for name, index in places + places}
            found.append((with_pace(hall, paces[0] + dice.choice((0, 1, 1, 2))), stops))
    return found


CASES = chosen_halls() + late_halls(203, 160)


def without(stops, lot):
    return {key: ticks for key, ticks in stops.items() if key[0] not in lot}


def own_lots(hall, stops, piece):
    """All LOTS of any machines that FREE a piece, and have none that could be left out."""
    names = [name for name, _, _ in hall[0]]
    lots = [lot for many in range(len(names) + 1) for lot in itertools.combinations(names, many)]
    free = [lot for lot in lots if own_waits(hall, without(stops, lot), piece + 1)[piece] == 0]
    return sorted(lot for lot in free if not any(set(other) < set(lot) for other in free))


class BookedTest(unittest.TestCase):
    def test_of_the_chain_of_each_piece(self):
        kinds = {"below 0": 0, "above 0": 0, "two machines": 0, "none": 0}
        for hall, stops in CASES:
            told = own_waits(hall, stops, 10)
            for piece in range(10):
                way = chain(hall, stops, piece)
                losses, rest = same_after(self, booked, hall, stops, way)
                self.assertEqual(frozen((losses, rest)), frozen(self.own_booked(hall, stops, way)))
                self.assertEqual(list(losses), sorted(losses))
                self.assertEqual(sum(losses.values()) - rest, told[piece])
                kinds["below 0"] += rest < 0
                kinds["above 0"] += rest > 0
                kinds["two machines"] += len(losses) > 1
                kinds["none"] += not losses
        self.assertGreater(min(kinds.values()), 30)

    def own_booked(self, hall, stops, way):
        """Piece by piece, of all PURSES of the machine."""
        times = {name: time for name, time, _ in hall[0]}
        losses = {}
        rest = times[hall[2]] * index_of(hall, way)
        for name, piece in ended(hall, way):
            rest -= times[name]
            for (one, at, _), ticks in stops.items():
                if (one, at) == (name, piece):
                    losses[name] = losses.get(name, 0) + ticks
        return ({name: losses[name] for name in sorted(losses)}, rest)

    def test_of_any_way_it_is_the_same_sum(self):
        dice = random.Random(201)
        for hall, stops in CASES[:60]:
            for way in drawn_walks(dice, hall, 4, 12):
                self.assertEqual(frozen(booked(hall, stops, way)), frozen(self.own_booked(hall, stops, way)))

    def test_several_purses_and_several_stops(self):
        hall = ((("fill", 9, ()), ("wash", 2, ((9, 9), (5, 5), (3, 3)))), (("wash", "fill", 1, 1),), "fill")
        stops = {("wash", 0, 0): 9, ("wash", 0, 1): 5, ("wash", 1, 0): 7, ("wash", 1, 2): 2, ("wash", 2, 2): 3}
        # Two pieces of wash, 14 and 9 ticks late, on a chain of 4 ticks of its own; the FILLER wants its third one at 18.
        self.assertEqual(chain(hall, stops, 2), ("wash", (("next", "wash"), ("down", 0))))
        self.assertEqual([booked(hall, stops, chain(hall, stops, 2)), waits(hall, stops, 3)], [({"wash": 23}, 14), (0, 7, 9)])
        self.assertEqual(booked(hall, {}, ("fill", ())), ({}, 0))

    def test_only_machines_that_stop_are_told(self):
        self.assertEqual(booked(FED, STOPS, LATE), ({"wash": 3}, 2))
        self.assertEqual(booked(FED, {("cap", 0, 0): 2, ("wash", 1, 0): 3}, LATE), ({}, 2))

    def test_new_each_time(self):
        check_new(self, lambda hall, stops, way: booked(hall, stops, way)[0], FED, STOPS, LATE)


class LostAtTest(unittest.TestCase):
    def test_together_they_are_what_the_filler_waits_at_the_last_piece(self):
        several = 0
        for hall, stops in CASES:
            told = own_waits(hall, stops, 14)
            for many in (0, 1, 2, 13, 14):
                found = same_after(self, lost_at, hall, stops, many)
                own = {at: told[at] - (told[at - 1] if at else 0) for at in range(many) if told[at] > (told[at - 1] if at else 0)}
                self.assertEqual(frozen(found), frozen(own))
                self.assertEqual(sum(found.values()), told[many - 1] if many else 0)
                several += len(found) > 1
        self.assertGreater(several, 60)

    def test_none_and_400(self):
        stops = {("wash", piece, 0): 1 + piece % 3 for piece in range(400)}
        for hall, row in ((FED, STOPS), (FED, stops), (FED, {}), (LONE, {})):
            self.assertEqual(lost_at(hall, row, 0), {})
            found = lost_at(hall, row, 400)
            self.assertEqual(sum(found.values()), waits(hall, row, 400)[399])
            self.assertEqual(list(found), sorted(found))
            self.assertTrue(all(ticks > 0 and 0 <= piece < 400 for piece, ticks in found.items()))
        self.assertEqual([lost_at(FED, STOPS, 400), lost_at(FED, STOPS, 1), lost_at(FED, STOPS, 2)], [{1: 1}, {}, {1: 1}])

    def test_at_the_first_piece(self):
        hall = ((("cap", 2, ((3, 0),)), ("fill", 9, ())), (("cap", "fill", 2, 0),), "fill")
        self.assertEqual([lost_at(hall, {}, 3), lost_at(hall, {("cap", 0, 0): 3}, 1)], [{0: 2}, {0: 5}])

    def test_new_each_time(self):
        check_new(self, lost_at, FED, STOPS, 5)


class LotsTest(unittest.TestCase):
    def test_against_going_through_all(self):
        kinds = {"nobody": 0, "no lot": 0, "one": 0, "several": 0, "two machines": 0}
        for hall, stops in CASES:
            for piece in (0, 2, 7):
                told = own_lots(hall, stops, piece)
                self.assertEqual(frozen(same_after(self, least_lots, hall, stops, piece)), frozen(told))
                kinds["nobody"] += told == [()]
                kinds["no lot"] += told == []
                kinds["one"] += len(told) == 1 and told != [()]
                kinds["several"] += len(told) > 1
                kinds["two machines"] += any(len(lot) > 1 for lot in told)
        self.assertGreater(min(kinds.values()), 3, kinds)
        self.assertGreater(min(kinds["nobody"], kinds["no lot"], kinds["one"]), 20)

    def test_a_lot_that_frees_has_a_machine_to_which_something_is_booked(self):
        checked = 0
        for hall, stops in CASES:
            for piece in (1, 3, 7):
                losses, _ = booked(hall, stops, chain(hall, stops, piece))
                for lot in least_lots(hall, stops, piece):
                    self.assertTrue(lot == () or any(name in losses for name in lot))
                    self.assertIs(frees(hall, stops, piece, lot), True)
                    checked += lot != ()
        self.assertGreater(checked, 60)

    def test_saved_and_frees(self):
        dice = random.Random(202)
        kinds = {True: 0, False: 0, "saved": 0}
        for hall, stops in CASES:
            names = [name for name, _, _ in hall[0]]
            for _ in range(4):
                lot = tuple(sorted(dice.sample(names, dice.randint(0, len(names)))))
                piece = dice.choice((0, 1, 4, 9))
                with_all, less = own_waits(hall, stops, piece + 1)[piece], own_waits(hall, without(stops, lot), piece + 1)[piece]
                self.assertEqual(frozen(same_after(self, saved, hall, stops, piece, lot)), frozen(with_all - less))
                self.assertIs(same_after(self, frees, hall, stops, piece, lot), less == 0)
                kinds[less == 0] += 1
                kinds["saved"] += with_all > less
        self.assertGreater(min(kinds.values()), 40)

    def test_several_least_lots(self):
        # The belts make good what either of cap and dip stops, but not both; wash is beside them.
        machines = (("cap", 2, ((9, 0),)), ("dip", 2, ((9, 0),)), ("fill", 4, ()), ("wash", 2, ((9, 0),)))
        hall = (machines, (("dip", "cap", 2, 2), ("cap", "fill", 1, 1), ("wash", "fill", 1, 1)), "fill")
        stops = {("dip", 0, 0): 8, ("cap", 2, 0): 2}
        self.assertEqual(least_lots(hall, stops, 5), [("cap",), ("dip",)])
        self.assertEqual(least_lots(hall, {("wash", 0, 0): 9, **stops}, 5), [("cap", "wash"), ("dip", "wash")])
        self.assertEqual([least_lots(hall, stops, piece) for piece in (0, 2, 3)], [[()], [()], [("cap",), ("dip",)]])
        self.assertEqual([[frees(hall, stops, 5, lot) for lot in ((), ("cap",), ("fill", "wash"))], saved(hall, stops, 5, ("cap",))], [[False, True, False], 2])

    def test_it_waits_without_any_stops(self):
        slow = ((("cap", 5, ((3, 0),)), ("fill", 4, ())), (("cap", "fill", 1, 1),), "fill")
        self.assertEqual([least_lots(slow, {}, 0), least_lots(slow, {}, 1), least_lots(slow, {("cap", 0, 0): 3}, 2)], [[()], [], []])
        self.assertEqual([saved(slow, {("cap", 0, 0): 3}, 2, ("cap",)), frees(slow, {("cap", 0, 0): 3}, 2, ("cap", "fill"))], [3, False])

    def test_new_each_time(self):
        check_new(self, least_lots, FED, STOPS, 3)
        check_new(self, least_lots, FED, {}, 3)


if __name__ == "__main__":
    unittest.main()
