"""[33]: the worst losses; [9]: what is promised of them."""

import itertools
import random
import unittest

from fillerfed.errors import Dead, TooMany
from fillerfed.losses import is_loss_paper, loss_paper, loss_way, losses, worst_loss
from fillerfed.paces import are_bounds, worst_pace
from fillerfed.purses import all_let, are_let
from fillerfed.rings import dead_ring, is_live
from fillerfed.runs import waits
from fillerfed.walks import end_of_way, index_of, is_way
from fillerfed.walkstops import gain_of, stops_of
from samples import (DEAD, HALL, LONE, any_values, drawn_way, frozen, leads, let_stops, own_behind, own_full, own_gains, own_pace,
                     paced_halls, raised, same_after, some_hall, some_halls, with_pace)

BELTS = (("cap", "fill", 1, 1),)
SMALL = ((("cap", 2, ((2, 1),)), ("fill", 3, ())), BELTS, "fill")
ONCE = ((("cap", 2, ((4, 0),)), ("fill", 3, ())), BELTS, "fill")
TABLE = {("cap", ((0,), ())): 3, ("cap", ((4,), ())): 0, ("fill", ((0,), ())): 3, ("fill", ((4,), ())): 0}
PAPER = (("cap", (("down", 0),)), TABLE)
CROWD = ((("cap", 1, ((2001, 1),)), ("fill", 4, ())), BELTS, "fill")


HALLS = paced_halls(180, 120, 50) + [SMALL, ONCE, LONE]


def own_losses(hall, many):
    """The greatest GAINS of WAYS to the FILLER, by INDEX: all WAYS at once, those with the same STATE and INDEX as one."""
    rows = leads(hall)
    found = {(own_full(hall, name), 0): 0 for name, _, _ in hall[0]}
    latest = list(found)
    while latest:
        later = []
        for state, index in latest:
            for arc, start, _, growth in rows:
                if start == state[0] and index + growth < many:
                    there, ticks = own_behind(hall, state, arc)
                    if found.get((there, index + growth), -1) < found[state, index] + ticks:
                        found[there, index + growth] = found[state, index] + ticks
                        later.append((there, index + growth))
        latest = later
    pace = own_pace(hall)
    return tuple(max(ticks - pace * at for (state, at), ticks in found.items() if state[0] == hall[2] and at == index) for index in range(many))


def all_stops(hall, many, most):
    """All STOPS that are LET at pieces below many, None if there are more than most."""
    places = [(name, index, purse) for name, _, purses in hall[0] for index, purse in enumerate(purses)]
    rows = []
    count = 1
    for name, index, purse in places:
        try:
            taken = all_let(purse, many)
        except TooMany:
            return None
        rows.append([{(name, piece, index): ticks for piece, ticks in one.items()} for one in taken])
        count *= len(rows[-1])
        if count > most:
            return None
    return [{key: ticks for one in row for key, ticks in one.items()} for row in itertools.product(*rows)]


class LossesTest(unittest.TestCase):
    def test_against_all_stops_that_are_let(self):
        dice = random.Random(181)
        checked = lost = 0
        for at in range(400):
            hall = some_hall(dice, 2 + at % 3, 2, 2)
            machines = tuple((name, time, tuple((min(size, 2), min(back, 1)) for size, back in purses[:1])) for name, time, purses in hall[0])
            hall = (machines,) + hall[1:]
            stops = all_stops(hall, 3, 700) if is_live(hall) else None
            if stops:
                told = [max(row) for row in zip(*[waits(hall, one, 3) for one in stops])]
                self.assertEqual(frozen(losses(hall, 3)), frozen(tuple(told)))
                checked += 1
                lost += len(set(told)) > 1
        self.assertGreater(checked, 100)
        self.assertGreater(lost, 40)

    def test_against_all_ways(self):
        for hall in HALLS:
            for many in (0, 1, 2, 9):
                self.assertEqual(frozen(same_after(self, losses, hall, many)), frozen(own_losses(hall, many)))

    def test_no_stops_that_are_let_lose_more(self):
        dice = random.Random(182)
        just = 0
        for hall in HALLS:
            told = losses(hall, 20)
            for _ in range(3):
                for lost, loss in zip(waits(hall, let_stops(dice, hall, 18), 20), told):
                    self.assertLessEqual(lost, loss)
                    just += lost == loss > 0
        self.assertGreater(just, 100)

    def test_they_never_fall_and_are_0_exactly_if_it_holds(self):
        kinds = {True: 0, False: 0}
        for hall in HALLS:
            told = losses(hall, 40)
            self.assertEqual(list(told), sorted(told))
            self.assertGreaterEqual(told[0], 0)
            holding = own_gains(hall) is not None
            if holding:
                self.assertEqual(told, (0,) * 40)
            kinds[holding] += 1
            worst = worst_loss(hall)
            self.assertIs(worst == 0, holding)
            if worst is not None:
                self.assertLessEqual(told[-1], worst)
        self.assertGreater(min(kinds.values()), 40)

    def test_ways_that_come_by_the_filler(self):
        # The belts of the FILLER bring crates back: what it is late at a piece makes cap late at a later one.
        hall = ((("cap", 5, ((1, 0),)), ("fill", 4, ()), ("wash", 1, ((6, 0),))),
                (("wash", "fill", 1, 1), ("fill", "cap", 2, 1), ("cap", "fill", 1, 1)), "fill")
        self.assertEqual(frozen(losses(hall, 8)), frozen(own_losses(hall, 8)))

    def test_none(self):
        self.assertEqual([losses(SMALL, 0), losses(SMALL, 1), losses(ONCE, 4), losses(LONE, 3)], [(), (0,), (0, 3, 3, 3), (0, 0, 0)])

    def test_a_first_piece_that_is_late(self):
        hall = ((("cap", 2, ((3, 0),)), ("fill", 9, ())), (("cap", "fill", 2, 0),), "fill")
        self.assertEqual([losses(hall, 3), worst_loss(hall)], [(5, 5, 5), 5])
        self.assertEqual(loss_way(hall, 0), ("cap", (("down", 0),)))


class LossWayTest(unittest.TestCase):
    def test_of_drawn_halls(self):
        checked = 0
        for hall in HALLS:
            told = losses(hall, 16)
            for piece in (0, 1, 2, 5, 15):
                way = same_after(self, loss_way, hall, piece)
                self.assertTrue(is_way(hall, way))
                self.assertEqual([end_of_way(hall, way), index_of(hall, way), gain_of(hall, way)], [hall[2], piece, told[piece]])
                stops = stops_of(hall, way)
                self.assertTrue(are_let(hall, stops))
                self.assertEqual(waits(hall, stops, piece + 1)[piece], told[piece])
                checked += told[piece] > 0
        self.assertGreater(checked, 150)

    def test_far(self):
        for hall in (SMALL, ONCE, HALLS[3]):
            way = loss_way(hall, 399)
            self.assertEqual([index_of(hall, way), gain_of(hall, way)], [399, losses(hall, 400)[399]])


class WorstLossTest(unittest.TestCase):
    def test_none_exactly_if_the_worst_pace_is_above_the_pace(self):
        kinds = {True: 0, False: 0}
        for hall in HALLS:
            n, d = worst_pace(hall)
            worst = same_after(self, worst_loss, hall)
            self.assertIs(worst is None, n > d * own_pace(hall))
            kinds[worst is None] += 1
        self.assertGreater(min(kinds.values()), 40)

    def test_it_comes_about(self):
        positive = 0
        for hall in HALLS:
            worst = worst_loss(hall)
            if worst is None:
                # It grows on and on.
                self.assertGreater(losses(hall, 200)[199], losses(hall, 100)[99])
            else:
                self.assertEqual(losses(hall, 120)[119], worst)
                positive += worst > 0
        self.assertGreater(positive, 10)


class LossPaperTest(unittest.TestCase):
    def own_is_paper(self, hall, paper):
        way, bounds = paper
        if not is_way(hall, way) or end_of_way(hall, way) != hall[2] or not are_bounds(hall, (own_pace(hall), 1), bounds):
            return False
        gain = gain_of(hall, way)
        return all(bounds[own_full(hall, name)] >= 0 for name, _, _ in hall[0]) and all(bound <= gain for state, bound in bounds.items() if state[0] == hall[2])

    def papers(self):
        return [(hall, loss_paper(hall)) for hall in HALLS]

    def test_of_told_ones(self):
        told = 0
        for hall, paper in self.papers():
            self.assertEqual(frozen(same_after(self, loss_paper, hall)), frozen(paper))
            worst = worst_loss(hall)
            self.assertIs(paper is None, worst is None)
            if paper is None:
                self.assertIs(is_loss_paper(hall, paper), False)
                continue
            way, bounds = paper
            self.assertEqual([end_of_way(hall, way), gain_of(hall, way)], [hall[2], worst])
            self.assertEqual(list(bounds), sorted(bounds))
            self.assertIs(same_after(self, is_loss_paper, hall, paper), True)
            self.assertTrue(self.own_is_paper(hall, paper))
            loss_paper(hall)[1].clear()
            self.assertEqual(frozen(loss_paper(hall)), frozen(paper))
            told += worst > 0
        self.assertGreater(told, 10)

    def test_one_part_otherwise(self):
        dice = random.Random(183)
        kinds = {True: 0, False: 0}
        for hall, paper in self.papers():
            if paper is None:
                continue
            way, bounds = paper
            for state in dice.sample(sorted(bounds), min(4, len(bounds))):
                for other in ({**bounds, state: bounds[state] - 1}, {**bounds, state: bounds[state] + 1},
                              {key: bound for key, bound in bounds.items() if key != state}):
                    told = self.own_is_paper(hall, (way, other))
                    self.assertIs(is_loss_paper(hall, (way, other)), told)
                    kinds[told] += 1
            for more in (-1, 1, 5):
                self.assertIs(is_loss_paper(hall, (way, {key: bound + more for key, bound in bounds.items()})), False)
            for many in (0, 1, 3):
                other = drawn_way(dice, hall, many)
                told = self.own_is_paper(hall, (other, bounds))
                self.assertIs(is_loss_paper(hall, (other, bounds)), told)
                kinds[told] += 1
        self.assertGreater(min(kinds.values()), 30)

    def test_each_thing_that_is_asked(self):
        self.assertIs(is_loss_paper(ONCE, PAPER), True)
        way = PAPER[0]
        # A later piece is as good; a WAY that gains less, or ends elsewhere, is not.
        self.assertIs(is_loss_paper(ONCE, (("cap", (("down", 0), ("next", "fill"))), TABLE)), True)
        for thing in ((("fill", ()), TABLE), (("cap", ()), TABLE), (("cap", (("down", 0), ("up", 0))), TABLE), (way, {**TABLE, ("fill", ((4,), ())): 4}),
                      (way, {**TABLE, ("cap", ((4,), ())): -1}), (way, {**TABLE, ("fill", ((4,), ())): -1}), (way, {**TABLE, ("cap", ((0,), ())): 2}),
                      (way, {**TABLE, ("fill", ((0,), ())): 2}), (way, {**TABLE, ("fill", ((1,), ())): 0}), (way, {}), (way, None), (way,), PAPER + (0,),
                      list(PAPER), (list(way), TABLE), (way, list(TABLE.items())), (TABLE, way), (way, {**TABLE, ("cap", ((4,), ())): False}),
                      (way, {**TABLE, None: 0}),
                      (("cap", [("down", 0)]), TABLE), (("cap", (("down", False),)), TABLE)):
            self.assertIs(is_loss_paper(ONCE, thing), False, thing)
        # BOUNDS below 0 at a full STATE show nothing of WAYS from there, though they are BOUNDS.
        low = {state: bound - 3 for state, bound in TABLE.items()}
        self.assertEqual([are_bounds(ONCE, (3, 1), low), is_loss_paper(ONCE, (("fill", ()), low))], [True, False])

    def test_of_other_halls(self):
        dice = random.Random(184)
        papers = [paper for _, paper in self.papers() if paper is not None]
        kinds = {True: 0, False: 0}
        for hall in HALLS:
            for paper in dice.sample(papers, 3) + [PAPER]:
                try:
                    told = self.own_is_paper(hall, paper)
                except KeyError:
                    told = False
                self.assertIs(is_loss_paper(hall, paper), told)
                kinds[told] += 1
        for hall, paper in self.papers():
            if paper is not None:
                self.assertIs(is_loss_paper(with_pace(hall, own_pace(hall) + 1), paper), self.own_is_paper(with_pace(hall, own_pace(hall) + 1), paper))
        self.assertGreater(kinds[False], 100)

    def test_of_halls_that_are_not_live(self):
        ring = ((("a", 1, ()), ("b", 1, ()), ("fill", 9, ())), (("a", "b", 1, 1), ("b", "a", 1, 1), ("a", "fill", 1, 1)), "fill")
        bounds = {(name, ((), (), ())): 0 for name in ("a", "b", "fill")}
        # By the words of BOUNDS these are some; the HALL is not LIVE.
        self.assertEqual([is_live(ring), are_bounds(ring, (9, 1), bounds), is_loss_paper(ring, (("fill", ()), bounds))], [False, True, False])
        papers = [paper for _, paper in self.papers()][:20]
        for hall in [hall for hall in some_halls(185, 60) if not is_live(hall)] + [DEAD]:
            full = {own_full(hall, name): 0 for name, _, _ in hall[0]}
            for paper in papers + [((hall[2], ()), full), ((hall[2], ()), {}), None, PAPER]:
                self.assertIs(is_loss_paper(hall, paper), False)

    def test_values_of_any_kind(self):
        for thing in any_values():
            for hall in (ONCE, SMALL, LONE, DEAD, HALL, CROWD):
                for other in (thing, (thing, TABLE), (PAPER[0], thing), (thing, thing), ((thing, ()), TABLE), (("cap", (thing,)), TABLE)):
                    self.assertIs(is_loss_paper(hall, other), hall == ONCE and frozen(other) == frozen(PAPER))


class RaisesTest(unittest.TestCase):
    def test_dead_and_too_many(self):
        crowd = (CROWD[0] + (("wash", 1, ()),), BELTS + (("wash", "cap", 1, 1), ("cap", "wash", 1, 1)), "fill")
        calls = ((losses, (0,)), (losses, (5,)), (loss_way, (0,)), (loss_way, (7,)), (worst_loss, ()), (loss_paper, ()))
        for hall in [hall for hall in some_halls(186, 60) if not is_live(hall)] + [DEAD, crowd]:
            for call, given in calls:
                self.assertEqual(raised(self, Dead, call, hall, *given).ring, dead_ring(hall))
        for call, given in calls:
            self.assertEqual(raised(self, TooMany, call, CROWD, *given).most, 4000)
        near = ((("cap", 1, ((2000, 1),)), ("fill", 4, ())), BELTS, "fill")
        self.assertEqual([losses(near, 2), worst_loss(near), loss_paper(near)], [(0, 1997), None, None])


if __name__ == "__main__":
    unittest.main()
