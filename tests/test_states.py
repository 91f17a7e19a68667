"""[24]: where a walk is, and what the purses hold there."""

import random
import unittest

from fillerfed.errors import Dead, TooMany
from fillerfed.rings import dead_ring, is_live
from fillerfed.states import behind, full_state, is_state, states_of
from samples import (DEAD, HALL, LONE, any_values, exchanged, leads, live_halls, own_behind, own_full, own_web, raised, same_after, some_hall,
                     some_halls)

LINE = ((("cap", 2, ((2, 0),)), ("fill", 4, ()), ("wash", 2, ((3, 1), (1, 2)))), (("wash", "cap", 1, 1), ("cap", "fill", 2, 2)), "fill")
SMALL = [hall for hall, _ in live_halls(80, 160, 4)]


def drawn_state(dice, hall):
    """A STATE with any contents."""
    return (dice.choice(hall[0])[0], tuple(tuple(dice.choice((0, size, dice.randint(0, size))) for size, _ in purses) for _, _, purses in hall[0]))


def stair(size):
    """A LIVE HALL with 2 * size STATES, size from 2 on: what cap HOLDS grows piece by piece as long as one stays at wash."""
    return ((("cap", 1, ((size, 1),)), ("fill", 4, ()), ("wash", 1, ())), (("wash", "cap", 1, 0), ("cap", "fill", 1, 1)), "fill")


class IsStateTest(unittest.TestCase):
    def test_full_and_drawn_ones(self):
        dice = random.Random(81)
        for hall in some_halls(81, 60):
            for name, _, _ in hall[0]:
                self.assertEqual(same_after(self, full_state, hall, name), own_full(hall, name))
                self.assertIs(is_state(hall, full_state(hall, name)), True)
            for _ in range(4):
                state = drawn_state(dice, hall)
                self.assertIs(same_after(self, is_state, hall, state), True)
                self.assertIs(is_state(hall, ("nobody", state[1])), False)
                self.assertIs(is_state(hall, (state[0], state[1] + ((),))), False)
                self.assertIs(is_state(hall, (state[0], state[1][:-1])), False)
                self.assertIs(is_state(hall, (state[0], state[1][:-1] + (state[1][-1] + (0,),))), False)

    def test_one_part_otherwise(self):
        state = ("cap", ((2,), (), (3, 1)))
        self.assertIs(is_state(LINE, state), True)
        for thing in exchanged(state):
            self.assertIs(same_after(self, is_state, LINE, thing), False, thing)

    def test_contents_from_0_to_the_size(self):
        for content in range(-2, 6):
            self.assertIs(is_state(LINE, ("fill", ((content,), (), (0, 0)))), 0 <= content <= 2)
            self.assertIs(is_state(LINE, ("fill", ((0,), (), (content, 0)))), 0 <= content <= 3)
            self.assertIs(is_state(LINE, ("fill", ((0,), (), (0, content)))), 0 <= content <= 1)

    def test_wrong_values(self):
        for thing in (("cap", ((True,), (), (3, 1))), ("cap", ((2,), (), (3, False))), ("cap", ([2], (), (3, 1))), ["cap", ((2,), (), (3, 1))],
                      ("cap", [(2,), (), (3, 1)]), ("cap", ((2,), None, (3, 1))), ("cap", ((2,), (0,), (3, 1))), ("cap", ((2,), (), (3,))),
                      ("cap", ((2,), (3, 1))), ("cap", ((2,), (), (3, 1), ())), ("cap", ((2.0,), (), (3, 1))), ("Cap", ((2,), (), (3, 1))),
                      ("cap", ((2,), (), (3, 1)), 0), ("cap",), ("cap", ()), (None, ((2,), (), (3, 1))), ("cap", ((), (2,), (3, 1))),
                      ("cap", ((10 ** 30,), (), (3, 1))), ("cap", {0: (2,), 1: (), 2: (3, 1)}), (("cap",), ((2,), (), (3, 1)))):
            self.assertIs(is_state(LINE, thing), False, thing)

    def test_any_value(self):
        for hall in (LINE, LONE, DEAD, HALL):
            for thing in any_values():
                self.assertIs(is_state(hall, thing), False)
                self.assertIs(is_state(hall, ("fill", thing)), False)
                self.assertIs(is_state(hall, ("fill", (thing,) * len(hall[0]))), thing == () and type(thing) is tuple and hall == LONE)
                self.assertIs(is_state(LINE, (thing, ((2,), (), (3, 1)))), type(thing) is str and thing in ("cap", "fill"))
                self.assertIs(is_state(LINE, ("cap", ((thing,), (), (3, 1)))), type(thing) is int and 0 <= thing <= 2)
        self.assertIs(is_state(LONE, ("fill", ((),))), True)


class BehindTest(unittest.TestCase):
    def test_each_arc_from_each_state(self):
        growths = {}
        for hall in SMALL:
            for state in list(own_web(hall))[:40]:
                for arc, start, _, growth in leads(hall):
                    if start == state[0]:
                        found = same_after(self, behind, hall, state, arc)
                        self.assertEqual(found, own_behind(hall, state, arc))
                        self.assertTrue(is_state(hall, found[0]))
                        self.assertIs(type(found), tuple)
                        growths[growth] = True
        self.assertLessEqual({0, 1, 2, 3}, set(growths))

    def test_drawn_states_of_greater_halls(self):
        dice = random.Random(82)
        for hall in some_halls(82, 60):
            for _ in range(5):
                state = drawn_state(dice, hall)
                for arc, start, _, _ in leads(hall):
                    if start == state[0]:
                        self.assertEqual(behind(hall, state, arc), own_behind(hall, state, arc))

    def test_backs_of_0_and_great_ones(self):
        hall = ((("fill", 9, ()), ("wash", 2, ((3, 0), (5, 2), (4, 99)))), (("wash", "fill", 5, 2),), "fill")
        state = ("wash", ((), (3, 1, 2)))
        self.assertEqual(behind(hall, state, ("next", "wash")), (("wash", ((), (0, 2, 4))), 8))
        self.assertEqual(behind(hall, state, ("down", 0)), (("fill", ((), (0, 4, 4))), 8))
        self.assertEqual(behind(hall, ("fill", ((), (0, 1, 0))), ("up", 0)), (("wash", ((), (0, 5, 4))), 0))
        self.assertEqual(behind(hall, ("fill", ((), (1, 1, 0))), ("next", "fill")), (("fill", ((), (1, 3, 4))), 9))

    def test_a_down_arc_without_growth(self):
        # What is given at a piece is not there again at this piece.
        hall = ((("fill", 9, ()), ("wash", 2, ((3, 2),))), (("wash", "fill", 5, 0),), "fill")
        self.assertEqual(behind(hall, ("wash", ((), (3,))), ("down", 0)), (("fill", ((), (0,))), 5))


class StatesOfTest(unittest.TestCase):
    def test_against_an_own_closure(self):
        still = 0
        sizes = {}
        for hall in SMALL:
            found = same_after(self, states_of, hall)
            self.assertEqual(found, tuple(sorted(own_web(hall))))
            self.assertIs(type(found), tuple)
            self.assertTrue(all(is_state(hall, state) for state in found))
            self.assertEqual([state for state in found if state[0] == hall[2]], [full_state(hall, hall[2])])
            still += any(first in (0, room) for _, _, room, first in hall[1])
            sizes[len(hall[0])] = True
        self.assertGreater(still, 40)
        self.assertEqual(set(sizes), {1, 2, 3, 4})

    def test_the_filler_alone(self):
        self.assertEqual(states_of(LONE), (("fill", ((),)),))

    def test_none_is_come_to_through_the_filler(self):
        # From cap one comes to wash only through the FILLER: wash is full whenever one is at cap.
        hall = ((("cap", 1, ((1, 0),)), ("fill", 4, ()), ("wash", 1, ((2, 0),))), (("cap", "fill", 1, 1), ("wash", "fill", 1, 1)), "fill")
        self.assertEqual(states_of(hall), (("cap", ((0,), (), (2,))), ("cap", ((1,), (), (2,))), ("fill", ((1,), (), (2,))),
                                           ("wash", ((1,), (), (0,))), ("wash", ((1,), (), (2,)))))

    def test_dead(self):
        dead = [hall for hall in some_halls(83, 80) if not is_live(hall)] + [DEAD]
        self.assertGreater(len(dead), 5)
        for hall in dead:
            self.assertEqual(raised(self, Dead, states_of, hall).ring, dead_ring(hall))

    def test_at_the_very_bound(self):
        # One more machine beside the FILLER has one STATE more, without PURSES.
        def wider(size):
            machines, belts, filler = stair(size)
            return (machines + (("x", 1, ()),), belts + (("x", "fill", 1, 1),), filler)

        for size in (2, 3, 5):
            self.assertEqual([len(own_web(stair(size))), len(own_web(wider(size)))], [2 * size, 2 * size + 1])
            self.assertEqual([len(states_of(stair(size))), len(states_of(wider(size)))], [2 * size, 2 * size + 1])
        self.assertEqual(len(states_of(stair(10000))), 20000)
        self.assertEqual(raised(self, TooMany, states_of, wider(10000)).most, 20000)

    def test_too_many_and_dead(self):
        purses = ((97, 1), (89, 1), (83, 1))
        machines = tuple(sorted([("fill", 4, ())] + [(name, 1, purses) for name in "abcdefg"]))
        belts = tuple((name, "fill", 2, 1) for name in "abcdefg") + tuple((one, other, 3, 1) for one, other in zip("abcd", "bcde"))
        self.assertEqual(raised(self, TooMany, states_of, (machines, belts, "fill")).most, 20000)
        dead = (machines, belts + (("a", "fill", 1, 0),) + (("fill", "a", 1, 0),), "fill")
        self.assertEqual(raised(self, Dead, states_of, dead).ring, dead_ring(dead))

    def test_greater_halls(self):
        dice = random.Random(84)
        done = 0
        while done < 6:
            hall = some_hall(dice, 5)
            if is_live(hall) and len(own_web(hall)) < 4000:
                self.assertEqual(states_of(hall), tuple(sorted(own_web(hall))))
                done += 1


if __name__ == "__main__":
    unittest.main()
