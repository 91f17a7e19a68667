"""[28]: trees and lines."""

import random
import unittest

from fillerfed.forms import is_hall
from fillerfed.rings import is_live
from fillerfed.trees import back_home, belt_home, is_line, is_tree, there_and_back, way_home
from fillerfed.walks import ended, index_of, is_walk
from samples import DEAD, HALL, LONE, drawn_trees, own_belts_home, same_after, some_halls

CAP, FILL, WASH = ("cap", 3, ((4, 1),)), ("fill", 5, ()), ("wash", 2, ((2, 0), (1, 3)))
LINE = ((CAP, FILL, WASH), (("wash", "cap", 1, 1), ("cap", "fill", 2, 2)), "fill")
FORK = ((CAP, FILL, WASH), (("wash", "fill", 3, 3), ("cap", "fill", 2, 2)), "fill")

TREES = drawn_trees(130)


def own_is_tree(hall):
    """Whether a HALL is a TREE, by the words of the definition."""
    counts = {name: 0 for name, _, _ in hall[0]}
    for start, _, room, first in hall[1]:
        counts[start] += 1
        if room != first:
            return False
    return all(count == (name != hall[2]) for name, count in counts.items())


class KindsTest(unittest.TestCase):
    def test_trees_and_lines(self):
        for at, hall in enumerate(TREES):
            self.assertTrue(is_hall(hall) and is_live(hall))
            self.assertIs(same_after(self, is_tree, hall), True)
            ends = [end for _, end, _, _ in hall[1]]
            self.assertIs(same_after(self, is_line, hall), len(set(ends)) == len(ends))
            if at // 8 % 2 == 0:
                self.assertIs(is_line(hall), True)
        self.assertGreater(len([hall for hall in TREES if not is_line(hall)]), 15)

    def test_of_any_hall(self):
        for hall in some_halls(131, 160) + [HALL, DEAD, LONE, LINE, FORK]:
            told = own_is_tree(hall)
            ends = [end for _, end, _, _ in hall[1]]
            self.assertIs(same_after(self, is_tree, hall), told)
            self.assertIs(same_after(self, is_line, hall), told and len(set(ends)) == len(ends))

    def test_the_filler_alone_and_small_ones(self):
        self.assertEqual([is_tree(LONE), is_line(LONE), is_tree(LINE), is_line(LINE), is_tree(FORK), is_line(FORK)], [True] * 5 + [False])

    def test_not_so_by_one_thing(self):
        machines, belts, filler = LINE
        for other in (belts + (("wash", "fill", 1, 1),), belts + (("wash", "cap", 1, 1),), belts + (("fill", "wash", 1, 1),), belts + (("cap", "wash", 2, 2),),
                      (("wash", "cap", 1, 0), belts[1]), (belts[0], ("cap", "fill", 2, 1)), (belts[0], ("cap", "fill", 2, 0)),
                      (("cap", "wash", 1, 1), belts[1]), (belts[0], ("fill", "cap", 2, 2))):
            hall = (machines, other, filler)
            self.assertTrue(is_hall(hall))
            self.assertIs(is_tree(hall), False)
            self.assertIs(is_line(hall), False)
        # Two belts join at wash: a TREE, and no LINE.
        hall = ((CAP, FILL, WASH, ("x", 1, ())), (("cap", "wash", 1, 1), ("x", "wash", 2, 2), ("wash", "fill", 3, 3)), "fill")
        self.assertEqual([is_tree(hall), is_line(hall)], [True, False])

    def test_drawn_ones_not_so_by_one_thing(self):
        dice = random.Random(132)
        for machines, belts, filler in [hall for hall in TREES if len(hall[0]) > 1]:
            at = dice.randrange(len(belts))
            start, end, room, _ = belts[at]
            others = [belts[:at] + ((start, end, room, room - 1),) + belts[at + 1:], belts[:at] + ((end, start, room, room),) + belts[at + 1:],
                      belts + ((start, filler, 1, 1),), belts + ((filler, start, 1, 1),)]
            for other in others:
                self.assertIs(is_tree((machines, other, filler)), False)
                self.assertIs(is_line((machines, other, filler)), False)


class HomeTest(unittest.TestCase):
    def test_of_each_machine(self):
        deep = 0
        for hall in TREES:
            purses = {name: row for name, _, row in hall[0]}
            for name in purses:
                belts = own_belts_home(hall, name)
                names = tuple(hall[1][index][0] for index in belts)
                self.assertEqual(same_after(self, belt_home, hall, name), belts[0] if belts else None)
                self.assertEqual(same_after(self, way_home, hall, name), names)
                self.assertIs(type(way_home(hall, name)), tuple)
                self.assertEqual(same_after(self, back_home, hall, name), sum(back for one in names[1:] for _, back in purses[one]))
                deep += len(belts) > 3
                if name != hall[2]:
                    walk = same_after(self, there_and_back, hall, name)
                    self.assertEqual(walk, (hall[2], tuple(("up", index) for index in belts[::-1]) + tuple(("down", index) for index in belts)))
                    self.assertTrue(is_walk(hall, walk))
                    self.assertEqual([one for one, _ in ended(hall, walk)], list(names))
                    self.assertEqual(index_of(hall, walk), sum(hall[1][index][2] for index in belts))
        self.assertGreater(deep, 30)

    def test_the_filler(self):
        for hall in TREES:
            self.assertEqual([belt_home(hall, hall[2]), way_home(hall, hall[2]), back_home(hall, hall[2])], [None, (), 0])

    def test_backs_of_several_purses(self):
        hall = ((CAP, FILL, WASH, ("x", 1, ((5, 7),))), (("wash", "cap", 1, 1), ("cap", "fill", 2, 2), ("x", "wash", 3, 3)), "fill")
        self.assertEqual([back_home(hall, name) for name in ("cap", "fill", "wash", "x")], [0, 0, 1, 0 + 3 + 1])
        self.assertEqual([way_home(hall, "x"), there_and_back(hall, "x")[1][:4]], [("x", "wash", "cap"), (("up", 1), ("up", 0), ("up", 2), ("down", 2))])


if __name__ == "__main__":
    unittest.main()
