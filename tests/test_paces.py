"""[32]: the worst pace; [9]: what is promised of it."""

import random
import unittest
from fractions import Fraction

from fillerfed.errors import Dead, TooMany
from fillerfed.paces import (are_bounds, is_pace_paper, is_round, latest_tick, mean_of, pace_paper, pace_way, state_of_way, way_states,
                             worst_pace)
from fillerfed.purses import are_let
from fillerfed.rings import dead_ring, is_live
from fillerfed.runs import begins
from fillerfed.walks import end_of_way, index_of, is_way, way_to_filler
from fillerfed.walkstops import stops_of, ticks_of
from samples import (DEAD, HALL, LONE, any_values, drawn_way, exchanged, frozen, leads, let_stops, own_behind, own_full, own_gains,
                     own_pace, own_web, paced_halls, raised, same_after, some_halls)

BELTS = (("cap", "fill", 1, 1),)
SMALL = ((("cap", 2, ((2, 1),)), ("fill", 3, ())), BELTS, "fill")
ONCE = ((("cap", 2, ((4, 0),)), ("fill", 3, ())), BELTS, "fill")
FULL = own_full(SMALL, "cap")
ROUND = (FULL, (("down", 0), ("next", "fill"), ("up", 0)))
BOUNDS = {("cap", ((1,), ())): 1, FULL: 0, ("fill", ((1,), ())): 1, ("fill", ((2,), ())): 0}
PAPER = (("cap", ()), ROUND, BOUNDS)


HALLS = paced_halls(170, 130, 60) + [SMALL, ONCE, LONE]
WEBS = [own_web(hall, True) for hall in HALLS]
PAPERS = [pace_paper(hall) for hall in HALLS]


def own_mean(hall, lap):
    """The mean of a ROUND ARC by ARC, None if it is none; and the ticks of it."""
    state, arcs = lap
    growths = {row[0]: row[3] for row in leads(hall)}
    starts = {row[0]: row[1] for row in leads(hall)}
    here, ticks, growth = state, 0, 0
    for arc in arcs:
        if starts[arc] != here[0]:
            return None
        here, more = own_behind(hall, here, arc)
        ticks += more
        growth += growths[arc]
    return (Fraction(ticks, growth), ticks) if arcs and here == state else None


def own_are_bounds(hall, fraction, bounds):
    """Whether a dict from STATES to integers is BOUNDS, by the words of the definition."""
    n, d = fraction
    if not all(own_full(hall, name) in bounds for name, _, _ in hall[0]):
        return False
    for state, bound in bounds.items():
        for arc, start, _, growth in leads(hall):
            if start == state[0]:
                later, ticks = own_behind(hall, state, arc)
                if later not in bounds or bounds[later] < bound + d * ticks - n * growth:
                    return False
    return True


def simple_means(hall, web, most):
    """The MEANS of all ROUNDS that come to no STATE twice, None if there is too much to go through."""
    growths = {row[0]: row[3] for row in leads(hall)}
    order = {state: at for at, state in enumerate(sorted(web))}
    means = set()
    steps = 0
    for start in order:
        pile = [(start, (start,), 0, 0)]
        while pile:
            state, path, ticks, growth = pile.pop()
            steps += 1
            if steps > most:
                return None
            for arc, later, more in web[state]:
                if later == start:
                    means.add(Fraction(ticks + more, growth + growths[arc]))
                elif order[later] > order[start] and later not in path:
                    pile.append((later, path + (later,), ticks + more, growth + growths[arc]))
    return means


def long_cap(size, pace=4):
    """A HALL with 2 * size STATES, through which WAYS come."""
    return ((("cap", 1, ((size, 1),)), ("fill", pace, ())), BELTS, "fill")


class WayStatesTest(unittest.TestCase):
    def test_against_an_own_closure(self):
        more = 0
        for hall, web in zip(HALLS, WEBS):
            self.assertEqual(frozen(same_after(self, way_states, hall)), frozen(tuple(sorted(web))))
            more += len(web) > len(own_web(hall))
        self.assertGreater(more, 40)

    def test_dead_ahead_of_too_many(self):
        calls = ((way_states, ()), (worst_pace, ()), (pace_paper, ()))
        crowd = ((("cap", 1, ((9000, 1),)), ("fill", 4, ()), ("wash", 1, ())), BELTS + (("wash", "cap", 1, 1), ("cap", "wash", 1, 1)), "fill")
        for hall in [hall for hall in some_halls(171, 60) if not is_live(hall)] + [DEAD, crowd]:
            for call, given in calls:
                self.assertEqual(raised(self, Dead, call, hall, *given).ring, dead_ring(hall))
        for call, given in calls:
            self.assertEqual(raised(self, TooMany, call, long_cap(2001), *given).most, 4000)

    def test_too_many_exactly_if_there_are_more(self):
        hall = long_cap(2000)
        self.assertEqual(len(way_states(hall)), 4000)
        self.assertEqual(worst_pace(hall), (9997, 2000))
        self.assertIs(is_pace_paper(hall, pace_paper(hall)), True)
        for size, many in ((799, 3993), (800, 3998), (801, None)):
            wide = ((("cap", 1, ((size, 1),)), ("fill", 4, ()), ("wash", 1, ((2, 1),))), BELTS + (("wash", "cap", 1, 1),), "fill")
            if many is None:
                self.assertEqual(raised(self, TooMany, way_states, wide).most, 4000)
            else:
                self.assertEqual(len(way_states(wide)), many)

    def test_state_of_way(self):
        dice = random.Random(172)
        for hall, web in zip(HALLS, WEBS):
            for many in (0, 1, 2, 5, 12):
                way = drawn_way(dice, hall, many)
                state = own_full(hall, way[0])
                for arc in way[1]:
                    state, _ = own_behind(hall, state, arc)
                self.assertEqual(frozen(same_after(self, state_of_way, hall, way)), frozen(state))
                self.assertIn(state, web)


class RoundTest(unittest.TestCase):
    def test_drawn_ones(self):
        dice = random.Random(173)
        kinds = {True: 0, False: 0}
        for hall, web in zip(HALLS, WEBS):
            states = list(web)
            for _ in range(12):
                state = dice.choice(states)
                arcs = drawn_way(dice, hall, dice.randint(1, 5), state[0])[1]
                told = own_mean(hall, (state, arcs))
                self.assertIs(same_after(self, is_round, hall, (state, arcs)), told is not None)
                kinds[told is not None] += 1
                if told:
                    self.assertEqual(frozen(same_after(self, mean_of, hall, (state, arcs))), frozen((told[0].numerator, told[0].denominator)))
                    self.assertEqual(mean_of(hall, (state, arcs * 3)), mean_of(hall, (state, arcs)))
        self.assertGreater(min(kinds.values()), 150)

    def test_from_states_to_which_no_way_comes(self):
        hall = ((("cap", 2, ((9, 0),)), ("fill", 3, ())), BELTS, "fill")
        lap = (("cap", ((4,), ())), (("down", 0), ("up", 0)))
        self.assertNotIn(lap[0], way_states(hall))
        self.assertIs(is_round(hall, lap), False)
        still = (("fill", ((4,), ())), (("next", "fill"),))
        self.assertEqual([is_round(hall, still), mean_of(hall, still)], [True, (3, 1)])

    def test_one_part_otherwise(self):
        self.assertEqual([is_round(SMALL, ROUND), mean_of(SMALL, ROUND)], [True, (7, 2)])
        for thing in exchanged(ROUND):
            self.assertIs(is_round(SMALL, thing), False, thing)
        for thing in ((FULL, ()), (FULL, ROUND[1][:2]), (FULL, ROUND[1][1:] + ROUND[1][:1]), (FULL, ROUND[1] + (("down", 0),)), (("fill", FULL[1]), ROUND[1]),
                      (("cap", ((1,), ())), ROUND[1]), ROUND + (0,), (ROUND,), (ROUND[1], FULL), (FULL, (("down", 0), ("up", 0))), (FULL, (("next", "cap"),))):
            self.assertIs(is_round(SMALL, thing), False, thing)
        self.assertIs(is_round(SMALL, (("cap", ((1,), ())), (("next", "cap"),))), True)

    def test_any_value(self):
        for thing in any_values():
            for other in (thing, (thing, ROUND[1]), (FULL, thing), (FULL, (thing,)), (("cap", thing), ROUND[1]), ((thing, FULL[1]), ROUND[1])):
                self.assertIs(is_round(SMALL, other), type(thing) is str and other == ROUND)
            self.assertIs(is_round(LONE, thing), False)


class BoundsTest(unittest.TestCase):
    def test_of_told_ones(self):
        for hall, (_, lap, bounds) in zip(HALLS, PAPERS):
            mean = mean_of(hall, lap)
            self.assertIs(same_after(self, are_bounds, hall, mean, bounds), True)
            self.assertTrue(own_are_bounds(hall, mean, bounds))
            less = Fraction(*mean) - Fraction(1, 10 ** 6)
            self.assertIs(are_bounds(hall, (less.numerator, less.denominator), bounds), False)
            self.assertIs(are_bounds(hall, mean, {state: bound + 7 for state, bound in bounds.items()}), True)

    def test_one_integer_or_key_otherwise(self):
        dice = random.Random(174)
        kinds = {True: 0, False: 0}
        for hall, (_, lap, bounds) in zip(HALLS, PAPERS):
            mean = mean_of(hall, lap)
            for state in dice.sample(sorted(bounds), min(5, len(bounds))):
                for other in ({**bounds, state: bounds[state] - 1}, {**bounds, state: bounds[state] + 1}, {**bounds, state: bounds[state] + 50},
                              {key: bound for key, bound in bounds.items() if key != state}):
                    told = own_are_bounds(hall, mean, other)
                    self.assertIs(are_bounds(hall, mean, other), told)
                    kinds[told] += 1
                for thing in (True, None, "0", 0.0, (0,)):
                    self.assertIs(are_bounds(hall, mean, {**bounds, state: thing}), False)
            mixed = list(bounds.items())
            dice.shuffle(mixed)
            self.assertIs(are_bounds(hall, mean, dict(mixed)), True)
        self.assertGreater(min(kinds.values()), 60)

    def test_a_full_state_less(self):
        # What is left is closed: no ARC leads to the full STATES any more.
        hall = ((("cap", 2, ((4, 0),)), ("fill", 3, ())), BELTS, "fill")
        empty = {("cap", ((0,), ())): 0, ("fill", ((0,), ())): 0}
        full = {("cap", ((4,), ())): 0, ("fill", ((4,), ())): 0}
        self.assertEqual([are_bounds(hall, (9, 1), {**empty, **full}), are_bounds(hall, (9, 1), empty)], [True, False])
        for state in full:
            self.assertIs(are_bounds(hall, (9, 1), {**empty, state: 0}), False)

    def test_other_fractions(self):
        for hall, (_, lap, bounds) in zip(HALLS, PAPERS):
            mean = mean_of(hall, lap)
            for fraction in ((own_pace(hall), 1), (mean[0] + 1, mean[1]) if mean[1] == 1 else (mean[0] // mean[1], 1), (1000, 1), (0, 1), (-3, 2)):
                self.assertIs(are_bounds(hall, fraction, bounds), own_are_bounds(hall, fraction, bounds))
        self.assertEqual([are_bounds(SMALL, fraction, BOUNDS) for fraction in ((7, 2), (3, 1), (10, 3), (4, 1))], [True, False, False, True])

    def test_wrong_keys_and_values(self):
        self.assertIs(are_bounds(SMALL, (7, 2), BOUNDS), True)
        for key in (None, 0, "cap", ("cap",), ("cap", ((3,), ())), ("cap", ((-1,), ())), ("cap", ((1,),)), ("nobody", FULL[1]), (), b"",
                    ("cap", ((2.0,), (0,)))):
            self.assertIs(are_bounds(SMALL, (7, 2), {**BOUNDS, key: 0}), False)
        true = {key if key != ("cap", ((1,), ())) else ("cap", ((True,), ())): bound for key, bound in BOUNDS.items()}
        self.assertEqual(true, BOUNDS)
        self.assertIs(are_bounds(SMALL, (7, 2), true), False)
        for thing in any_values() + [list(BOUNDS.items()), tuple(BOUNDS.items()), list(BOUNDS)]:
            self.assertIs(are_bounds(SMALL, (7, 2), thing), False)
            self.assertIs(are_bounds(LONE, (4, 1), thing), False)
        self.assertIs(are_bounds(LONE, (4, 1), {("fill", ((),)): -7}), True)


class WorstPaceTest(unittest.TestCase):
    def test_against_all_rounds_that_come_to_no_state_twice(self):
        checked = 0
        for hall, web in zip(HALLS, WEBS):
            means = simple_means(hall, web, 3000)
            if means is not None:
                worst = max(means)
                self.assertEqual(frozen(same_after(self, worst_pace, hall)), frozen((worst.numerator, worst.denominator)))
                checked += len(means) > 4
        self.assertGreater(checked, 40)

    def test_the_paper_shows_it_from_both_sides(self):
        above = 0
        for hall, web, paper in zip(HALLS, WEBS, PAPERS):
            worst = same_after(self, worst_pace, hall)
            way, lap, bounds = same_after(self, pace_paper, hall)
            self.assertEqual(frozen((way, lap, bounds)), frozen(paper))
            self.assertTrue(is_way(hall, way))
            state = own_full(hall, way[0])
            for arc in way[1]:
                state, _ = own_behind(hall, state, arc)
            self.assertEqual(state, lap[0])
            self.assertEqual(own_mean(hall, lap)[0], Fraction(*worst))
            self.assertTrue(own_are_bounds(hall, worst, bounds))
            self.assertEqual(list(bounds), sorted(bounds))
            self.assertLessEqual(set(web), set(bounds))
            self.assertIs(same_after(self, is_pace_paper, hall, paper), True)
            # At least the PACE, and above it only where the HALL does not HOLD.
            self.assertGreaterEqual(Fraction(*worst), own_pace(hall))
            if Fraction(*worst) > own_pace(hall):
                self.assertIsNone(own_gains(hall))
                above += 1
        self.assertGreater(above, 40)
        self.assertGreater(len(HALLS) - above, 40)

    def test_a_mean_between_integers_and_long_rounds(self):
        self.assertEqual([worst_pace(SMALL), worst_pace(ONCE), worst_pace(LONE)], [(7, 2), (3, 1), (4, 1)])
        for size in (2, 3, 10, 60):
            # Once in so many pieces the FILLER waits for cap, which gives all that it has got back till then.
            worst = max(Fraction(4), Fraction(4 * (size - 1) + size + 1, size))
            self.assertEqual(worst_pace(long_cap(size)), (worst.numerator, worst.denominator))
            self.assertIs(is_pace_paper(long_cap(size), pace_paper(long_cap(size))), True)

    def test_new_each_time(self):
        for hall, paper in list(zip(HALLS, PAPERS))[::9]:
            told = frozen(paper)
            pace_paper(hall)[2].clear()
            self.assertEqual(frozen(pace_paper(hall)), told)


class IsPacePaperTest(unittest.TestCase):
    def own_is_paper(self, hall, paper):
        way, lap, bounds = paper
        if not is_way(hall, way) or not is_round(hall, lap) or not all(self.is_of(hall, state) for state in bounds):
            return False
        mean = own_mean(hall, lap)[0]
        return state_of_way(hall, way) == lap[0] and own_are_bounds(hall, (mean.numerator, mean.denominator), bounds)

    def is_of(self, hall, state):
        rows = dict((name, (at, purses)) for at, (name, _, purses) in enumerate(hall[0]))
        if state[0] not in rows or len(state[1]) != len(rows):
            return False
        return all(len(row) == len(purses) and all(0 <= content <= size for content, (size, _) in zip(row, purses)) for row,
                   (_, _, purses) in zip(state[1], hall[0]))

    def test_parts_of_others(self):
        dice = random.Random(175)
        kinds = {True: 0, False: 0}
        for at, hall in enumerate(HALLS):
            for other in (PAPERS[at - 1], PAPERS[at - 2], dice.choice(PAPERS)):
                for parts in ((0, 0, 1), (0, 1, 0), (1, 0, 0), (1, 1, 1)):
                    paper = tuple((PAPERS[at], other)[which][place] for place, which in enumerate(parts))
                    told = self.own_is_paper(hall, paper)
                    self.assertIs(is_pace_paper(hall, paper), told)
                    kinds[told] += 1
        self.assertGreater(min(kinds.values()), 60)

    def test_another_round_or_way(self):
        self.assertIs(is_pace_paper(SMALL, PAPER), True)
        still = (("fill", ((2,), ())), (("next", "fill"),))
        for thing in ((("cap", ()), ROUND, {**BOUNDS, FULL: 1}), (("fill", ()), ROUND, BOUNDS), (("cap", (("down", 0),)), ROUND, BOUNDS),
                      (("fill", ()), still, BOUNDS),
                      (ROUND, ("cap", ()), BOUNDS), (("cap", ()), (FULL, ROUND[1][:2]), BOUNDS), (("cap", ()), (FULL, ()), BOUNDS), PAPER[:2],
                      PAPER + (0,), list(PAPER),
                      (("cap", [])) + PAPER[1:], (["cap", ()],) + PAPER[1:], (("cap", ()), list(ROUND), BOUNDS), (("cap", ()), ROUND, list(BOUNDS.items())),
                      (("cap", ()), ROUND, {}), (("nobody", ()), ROUND, BOUNDS)):
            self.assertIs(is_pace_paper(SMALL, thing), False, thing)
        # The ROUND may be gone along twice, and begun where the WAY comes to.
        for thing in ((("cap", ()), (FULL, ROUND[1] * 2), BOUNDS), (("cap", ROUND[1]), ROUND, BOUNDS), (("fill", (("up", 0),)), ROUND, BOUNDS),
                      (("cap", (("down", 0),)), (("fill", ((1,), ())), ROUND[1][1:] + ROUND[1][:1]), BOUNDS)):
            self.assertIs(is_pace_paper(SMALL, thing), True)

    def test_a_round_with_a_mean_that_is_too_small(self):
        # These bounds are right for the greatest MEAN, those of a lesser one there cannot be.
        still = (("fill", ((2,), ())), (("next", "fill"),))
        for more in range(-5, 6):
            bounds = {state: bound + more * (state[0] == "fill") for state, bound in BOUNDS.items()}
            self.assertIs(is_pace_paper(SMALL, (("fill", ()), still, bounds)), False)

    def test_any_value(self):
        for thing in any_values():
            for other in (thing, (thing,) + PAPER[1:], (PAPER[0], thing, BOUNDS), (PAPER[0], ROUND, thing), (thing, thing, thing),
                          ((thing, ()), ROUND, BOUNDS) if type(thing) is not str or thing != "cap" else None,
                          (("cap", thing), ROUND, BOUNDS) if type(thing) is not tuple or thing != () else None, (PAPER[0], (thing, ROUND[1]), BOUNDS),
                          (PAPER[0], (FULL, thing), BOUNDS)):
                self.assertIs(is_pace_paper(SMALL, other), False)
            self.assertIs(is_pace_paper(DEAD, thing), False)
            self.assertIs(is_pace_paper(HALL, thing), False)


    def test_of_halls_that_are_not_live(self):
        # A ring that takes nothing and grows nothing: what is asked of BOUNDS by their words is so, and there is no MEAN.
        ring = ((("a", 1, ()), ("b", 1, ()), ("fill", 9, ())), (("a", "b", 1, 1), ("b", "a", 1, 1), ("a", "fill", 1, 1)), "fill")
        state = ("a", ((), (), ()))
        lap = (state, (("up", 1), ("up", 0)))
        bounds = {(name, ((), (), ())): 0 for name in ("a", "b", "fill")}
        self.assertEqual([is_live(ring), is_round(ring, lap), are_bounds(ring, (9, 1), bounds)], [False, True, True])
        still = (("fill", ((), (), ())), (("next", "fill"),))
        for thing in ((("a", ()), lap, bounds), (("fill", ()), still, bounds)):
            self.assertIs(is_pace_paper(ring, thing), False)
        for hall in [hall for hall in some_halls(177, 60) if not is_live(hall)] + [DEAD]:
            for paper in PAPERS[:12]:
                self.assertIs(is_pace_paper(hall, paper), False)


class BothSidesTest(unittest.TestCase):
    def test_no_begin_is_later_than_told(self):
        dice = random.Random(176)
        just = 0
        for hall, paper in zip(HALLS, PAPERS):
            told = [same_after(self, latest_tick, hall, paper, piece) if piece in (0, 7) else latest_tick(hall, paper, piece) for piece in range(25)]
            for _ in range(4):
                row = begins(hall, let_stops(dice, hall, 22), 25)[hall[2]]
                for piece, tick in enumerate(row):
                    self.assertLessEqual(tick, told[piece])
                    just += tick == told[piece]
            worst = Fraction(*mean_of(hall, paper[1]))
            shift = latest_tick(hall, paper, 0)
            self.assertLess(abs(latest_tick(hall, paper, 399) - (worst * 399 + shift)), 2)
        self.assertGreater(just, 100)

    def test_by_its_words(self):
        for hall, paper in zip(HALLS, PAPERS):
            _, lap, bounds = paper
            mean = own_mean(hall, lap)[0]
            high = max(bound for state, bound in bounds.items() if state[0] == hall[2])
            low = min(bounds[own_full(hall, name)] for name, _, _ in hall[0])
            for piece in (0, 1, 2, 3, 10, 399):
                self.assertEqual(latest_tick(hall, paper, piece), (mean.numerator * piece + high - low) // mean.denominator)
                more = (paper[0], lap, {state: bound - 30 for state, bound in bounds.items()})
                self.assertEqual(latest_tick(hall, more, piece), latest_tick(hall, paper, piece))

    def test_other_bounds(self):
        # The greatest integer at the FILLER, not at others; the least one at full STATES, not at others.
        bounds = {("cap", ((1,), ())): 3, FULL: 2, ("fill", ((1,), ())): 5, ("fill", ((2,), ())): 4}
        self.assertIs(are_bounds(SMALL, (7, 2), bounds), False)
        self.assertEqual([latest_tick(SMALL, (("cap", ()), ROUND, bounds), piece) for piece in (0, 1, 2)], [1, 5, 8])

    def test_the_way_on_which_it_comes_about(self):
        long = 0
        for hall, paper in zip(HALLS, PAPERS):
            way, lap, _ = paper
            _, ticks = own_mean(hall, lap)
            before = None
            for times in range(4):
                told = same_after(self, pace_way, hall, paper, times)
                self.assertTrue(is_way(hall, told))
                self.assertEqual(told, (way[0], way[1] + lap[1] * times + way_to_filler(hall, lap[0][0])))
                self.assertEqual(end_of_way(hall, told), hall[2])
                self.assertTrue(are_let(hall, stops_of(hall, told)))
                index, now = index_of(hall, told), ticks_of(hall, told)
                if index < 60:
                    self.assertGreaterEqual(begins(hall, stops_of(hall, told), index + 1)[hall[2]][index], now)
                    self.assertLessEqual(now, latest_tick(hall, paper, index))
                    long += index > 4
                if before is not None:
                    self.assertEqual(now - before, ticks)
                before = now
        self.assertGreater(long, 60)


if __name__ == "__main__":
    unittest.main()
