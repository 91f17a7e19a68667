"""[16]: arcs, and the least ways between machines."""

import unittest

from fillerfed.arcs import arcs_from, arcs_of, arcs_to, does_end, end_of, growth_of, least_arcs, least_growth, start_of
from fillerfed.forms import is_arc
from samples import DEAD, HALL, LONE, leads, same_after, some_halls

# Several belts between the same two, and rooms by which ways of few arcs grow more than others.
TWINS = ((("a", 1, ()), ("b", 1, ()), ("c", 1, ())),
         (("a", "b", 3, 1), ("a", "b", 2, 1), ("b", "a", 2, 1), ("b", "c", 5, 2), ("c", "a", 3, 3), ("a", "c", 9, 4)), "a")
HALLS = [HALL, LONE, DEAD, TWINS] + some_halls(14, 64)


def simple_ways(hall, here, other, been=()):
    """The tuples (growth, number, arcs) of all WAYS from a machine to another one that come to no machine twice."""
    found = [(0, 0, ())] if here == other else []
    for arc, start, end, growth in leads(hall):
        if start == here != other and end not in been + (here,):
            for more, many, arcs in simple_ways(hall, end, other, been + (here,)):
                found.append((growth + more, many + 1, (arc,) + arcs))
    return found


class ArcsTest(unittest.TestCase):
    def test_arcs_and_their_order(self):
        self.assertEqual(arcs_of(HALL), (("next", "cap"), ("next", "fill"), ("next", "wash"), ("down", 0), ("up", 0), ("down", 1), ("up", 1)))
        self.assertEqual(arcs_of(LONE), (("next", "fill"),))
        for hall in HALLS:
            found = same_after(self, arcs_of, hall)
            self.assertIs(type(found), tuple)
            self.assertEqual(list(found), [row[0] for row in leads(hall)])
            self.assertTrue(all(is_arc(hall, arc) for arc in found))

    def test_starts_ends_and_growths(self):
        for hall in HALLS:
            for arc, start, end, growth in leads(hall):
                self.assertEqual(same_after(self, start_of, hall, arc), start)
                self.assertEqual(same_after(self, end_of, hall, arc), end)
                self.assertEqual(same_after(self, growth_of, hall, arc), growth)
                self.assertIs(does_end(arc), arc[0] != "up")

    def test_from_and_to_each_machine(self):
        self.assertEqual(arcs_from(TWINS, "a"), (("next", "a"), ("down", 0), ("down", 1), ("up", 2), ("up", 4), ("down", 5)))
        self.assertEqual(arcs_to(TWINS, "a"), (("next", "a"), ("up", 0), ("up", 1), ("down", 2), ("down", 4), ("up", 5)))
        for hall in HALLS:
            for name, _, _ in hall[0]:
                self.assertEqual(same_after(self, arcs_from, hall, name), tuple(row[0] for row in leads(hall) if row[1] == name))
                self.assertEqual(same_after(self, arcs_to, hall, name), tuple(row[0] for row in leads(hall) if row[2] == name))

    def test_does_end(self):
        self.assertEqual([does_end(("next", "up")), does_end(("down", 0)), does_end(("up", 0))], [True, True, False])


class LeastTest(unittest.TestCase):
    def test_between_all_couples_of_machines(self):
        for hall in HALLS:
            names = [name for name, _, _ in hall[0]]
            for one in names:
                for other in names:
                    growth, _, arcs = min(simple_ways(hall, one, other))
                    self.assertEqual(same_after(self, least_growth, hall, one, other), growth)
                    self.assertEqual(same_after(self, least_arcs, hall, one, other), arcs)

    def test_of_one_to_itself(self):
        for hall in HALLS:
            for name, _, _ in hall[0]:
                self.assertEqual((least_growth(hall, name, name), least_arcs(hall, name, name)), (0, ()))

    def test_fewer_arcs_go_ahead_of_lesser_ones(self):
        belts = (("a", "b", 2, 1), ("b", "c", 2, 1), ("a", "c", 3, 2))
        hall = (TWINS[0], belts, "a")
        self.assertEqual((least_growth(hall, "a", "c"), least_arcs(hall, "a", "c")), (2, (("down", 2),)))
        self.assertEqual((least_growth(hall, "c", "a"), least_arcs(hall, "c", "a")), (1, (("up", 2),)))

    def test_less_growth_goes_ahead_of_fewer_arcs(self):
        hall = (TWINS[0], (("a", "b", 2, 1), ("b", "c", 2, 1), ("a", "c", 9, 3)), "a")
        self.assertEqual((least_growth(hall, "a", "c"), least_arcs(hall, "a", "c")), (2, (("down", 0), ("down", 1))))

    def test_down_goes_ahead_of_up_and_indexes_as_numbers(self):
        hall = (TWINS[0][:2], (("b", "a", 2, 1), ("a", "b", 2, 1), ("a", "b", 2, 1)), "a")
        self.assertEqual([least_arcs(hall, "a", "b"), least_arcs(hall, "b", "a")], [(("down", 1),), (("down", 0),)])
        many = (TWINS[0][:2], (("a", "b", 9, 5),) * 2 + (("a", "b", 9, 1),) + (("a", "b", 9, 5),) * 8 + (("a", "b", 9, 1),), "a")
        self.assertEqual(least_arcs(many, "a", "b"), (("down", 2),))


if __name__ == "__main__":
    unittest.main()
