"""[17]: dead rings and rises."""

import itertools
import random
import unittest

from fillerfed.errors import Dead
from fillerfed.rings import dead_ring, is_dead_ring, is_live, is_rise, rise
from samples import DEAD, HALL, LONE, NEVER_RIGHT, Odd, any_values, check_new, exchanged, frozen, raised, same_after, some_halls
from test_arcs import leads

MACHINES = tuple((name, 1, ()) for name in "abcd")

# A dead ring of four arcs, whose least arc is less than that of the rings of two, then one of three and two of two.
RINGS = (MACHINES, (("a", "b", 2, 0), ("b", "c", 1, 0), ("c", "d", 1, 0), ("d", "a", 1, 0), ("c", "b", 3, 0), ("d", "b", 2, 0), ("d", "c", 1, 0)), "a")

LIVE = ((("fill", 4, ()), ("sort", 2, ((2, 0),)), ("wash", 2, ((3, 1),))), (("wash", "sort", 2, 2), ("sort", "fill", 1, 1)), "fill")


def still(hall):
    """The rows (arc, start, end) of the ARCS with the GROWTH 0."""
    return [row[:3] for row in leads(hall) if row[3] == 0]


def simple_rings(hall):
    """All DEAD RINGS that come to no machine twice, those that are turned about too."""
    found = []

    def go(begin, here, arcs, been):
        for arc, start, end in still(hall):
            if start == here and end == begin:
                found.append(arcs + (arc,))
            elif start == here and end not in been:
                go(begin, end, arcs + (arc,), been + (end,))

    for name, _, _ in hall[0]:
        go(name, name, (), (name,))
    return found


def height(hall, name):
    """The greatest number of ARCS of a WAY by ARCS with the GROWTH 0 to a machine of a LIVE HALL."""
    return max([1 + height(hall, start) for _, start, end in still(hall) if end == name], default=0)


def tight_halls(seed, rounds):
    """HALLS whose BELTS are full or empty at first, many of them not LIVE."""
    dice = random.Random(seed)
    found = []
    for hall in some_halls(seed, rounds):
        belts = []
        for start, end, room, _ in hall[1]:
            belts.append((start, end, room, dice.choice((0, room))))
        found.append((hall[0], tuple(belts), hall[2]))
    return found


HALLS = [HALL, LONE, DEAD, RINGS, LIVE] + some_halls(15, 80) + tight_halls(16, 160)


class DeadRingTest(unittest.TestCase):
    def test_fewest_arcs_and_of_these_the_least(self):
        dead = 0
        for hall in HALLS:
            rings = simple_rings(hall)
            found = same_after(self, dead_ring, hall)
            self.assertEqual(found, min(rings, key=lambda ring: (len(ring), ring), default=None))
            self.assertIs(same_after(self, is_live, hall), not rings)
            dead += bool(rings)
        self.assertIn(dead, range(60, len(HALLS) - 60))

    def test_rings_of_unlike_lengths_and_of_one(self):
        self.assertEqual(dead_ring(RINGS), (("down", 1), ("down", 4)))
        self.assertEqual(dead_ring((MACHINES, RINGS[1][:4] + RINGS[1][5:], "a")), (("down", 2), ("down", 5)))
        self.assertEqual(dead_ring((MACHINES, RINGS[1][:4] + RINGS[1][5:6], "a")), (("down", 1), ("down", 2), ("down", 4)))
        self.assertEqual(dead_ring((MACHINES, RINGS[1][:4], "a")), (("down", 0), ("down", 1), ("down", 2), ("down", 3)))
        self.assertIsNone(dead_ring((MACHINES, RINGS[1][:3], "a")))

    def test_one_up_arc_and_one_down_arc(self):
        hall = (MACHINES[:2], (("a", "b", 2, 2), ("a", "b", 1, 0)), "a")
        self.assertEqual(dead_ring(hall), (("down", 1), ("up", 0)))
        self.assertEqual(dead_ring((MACHINES[:2], (("a", "b", 2, 2), ("b", "a", 1, 1)), "a")), (("up", 0), ("up", 1)))
        self.assertIsNone(dead_ring((MACHINES[:2], (("a", "b", 2, 2), ("b", "a", 1, 0)), "a")))
        self.assertIsNone(dead_ring((MACHINES[:2], (("a", "b", 2, 1), ("b", "a", 1, 0), ("a", "b", 3, 1)), "a")))

    def test_all_firsts_of_small_halls(self):
        ends = (("a", "b"), ("b", "c"), ("c", "a"), ("a", "c"))
        for firsts in itertools.product(range(3), repeat=4):
            hall = (MACHINES[:3], tuple((one, other, 2, first) for (one, other), first in zip(ends, firsts)), "b")
            rings = simple_rings(hall)
            self.assertEqual(dead_ring(hall), min(rings, key=lambda ring: (len(ring), ring), default=None))


class IsDeadRingTest(unittest.TestCase):
    def test_any_value(self):
        for hall in (HALL, LONE, DEAD, RINGS):
            for thing in any_values():
                before = frozen(thing)
                self.assertIs(is_dead_ring(hall, thing), False)
                self.assertEqual(frozen(thing), before)

    def test_turned_about_gone_twice_and_joined(self):
        for hall in HALLS:
            for ring in simple_rings(hall):
                self.assertIs(same_after(self, is_dead_ring, hall, ring), True)
                for at in range(len(ring)):
                    self.assertIs(is_dead_ring(hall, ring[at:] + ring[:at]), True)
                self.assertIs(is_dead_ring(hall, ring + ring), True)
        eight = (("down", 1), ("down", 2), ("down", 5), ("down", 1), ("down", 4))
        self.assertIs(is_dead_ring(RINGS, eight), True)
        self.assertIs(is_dead_ring(RINGS, (("down", 1), ("down", 4)) * 1500), True)

    def test_spoilt(self):
        for hall in HALLS:
            for ring in simple_rings(hall):
                for other in exchanged(ring, NEVER_RIGHT[:6] + (Odd(), 99)):
                    self.assertIs(is_dead_ring(hall, other), False)
                for at in range(len(ring)):
                    self.assertIs(is_dead_ring(hall, ring[:at] + ring[at + 1:]), False)
                    self.assertIs(is_dead_ring(hall, ring[:at] + ring[at:at + 1] + ring[at:]), False)
                self.assertIs(is_dead_ring(hall, list(ring)), False)

    def test_one_arc_with_growth(self):
        live = (MACHINES[:2], (("a", "b", 2, 0), ("b", "a", 2, 1), ("b", "a", 1, 0)), "a")
        self.assertIs(is_dead_ring(live, (("down", 0), ("down", 2))), True)
        self.assertIs(is_dead_ring(live, (("down", 0), ("down", 1))), False)
        self.assertIs(is_dead_ring(live, (("down", 0), ("up", 0))), False)
        self.assertIs(is_dead_ring(live, (("down", 0), ("next", "b"), ("down", 2))), False)
        self.assertIs(is_dead_ring(live, (("next", "a"),)), False)
        self.assertIs(is_dead_ring(live, ()), False)

    def test_arcs_that_do_not_join(self):
        self.assertIs(is_dead_ring(RINGS, (("down", 0), ("down", 2), ("down", 3))), False)
        self.assertIs(is_dead_ring(RINGS, (("down", 0), ("down", 1), ("down", 2))), False)
        self.assertIs(is_dead_ring(RINGS, (("down", 4), ("down", 1), ("down", 2))), False)

    def test_ring_of_another_hall(self):
        self.assertIs(is_dead_ring(HALL, dead_ring(DEAD)), False)
        self.assertIs(is_dead_ring(LONE, dead_ring(DEAD)), False)


class RiseTest(unittest.TestCase):
    def test_just_these_numbers(self):
        for hall in HALLS:
            if not is_live(hall):
                continue
            found = same_after(self, rise, hall)
            names = [name for name, _, _ in hall[0]]
            self.assertEqual(list(found.items()), [(name, height(hall, name)) for name in names])
            self.assertEqual({type(worth) for worth in found.values()}, {int})
            self.assertIs(is_rise(hall, found), True)
            check_new(self, rise, hall)

    def test_a_long_chain(self):
        names = [chr(ord("a") + at) for at in range(8)]
        belts = tuple((one, other, 1, 1) for one, other in zip(names, names[1:]))
        hall = (tuple((name, 1, ()) for name in names), belts, "a")
        self.assertEqual(rise(hall), {name: 7 - at for at, name in enumerate(names)})
        self.assertEqual(rise((hall[0], belts[::-1], "a")), {name: 7 - at for at, name in enumerate(names)})
        self.assertEqual(rise((hall[0], tuple(belt[:3] + (0,) for belt in belts), "c")), {name: at for at, name in enumerate(names)})
        self.assertEqual(rise((hall[0], tuple(belt[:2] + (2, 1) for belt in belts), "c")), {name: 0 for name in names})

    def test_dead(self):
        for hall in HALLS:
            if not is_live(hall):
                self.assertEqual(raised(self, Dead, rise, hall).ring, dead_ring(hall))


class IsRiseTest(unittest.TestCase):
    def test_any_value(self):
        for hall in (HALL, LONE, DEAD, RINGS, LIVE):
            for thing in any_values():
                before = frozen(thing)
                self.assertIs(is_rise(hall, thing), False)
                self.assertEqual(frozen(thing), before)

    def test_greater_ones(self):
        for hall in HALLS:
            if is_live(hall):
                found = rise(hall)
                for other in ({name: 3 * worth - 10 for name, worth in found.items()}, {name: worth + 10 ** 40 for name, worth in found.items()},
                              {name: found[name] for name in sorted(found, reverse=True)}):
                    self.assertIs(same_after(self, is_rise, hall, other), True)

    def test_spoilt(self):
        for hall in HALLS:
            if not is_live(hall):
                continue
            found = rise(hall)
            for name in found:
                self.assertIs(is_rise(hall, {one: worth for one, worth in found.items() if one != name}), False)
                for other in (None, True, False, "1", 1.0, (), [], {}, (1,)):
                    self.assertIs(is_rise(hall, {**found, name: other}), False)
            for key in ("nobody", None, 0, True, ("a",)):
                self.assertIs(is_rise(hall, {**found, key: 1}), False)
                renamed = {**found, key: 1}
                del renamed[hall[2]]
                self.assertIs(is_rise(hall, renamed), False)
            for _, start, end in still(hall):
                self.assertIs(is_rise(hall, {**found, end: found[start]}), False)
                self.assertIs(is_rise(hall, {**found, start: found[end]}), False)
                self.assertIs(is_rise(hall, {**found, start: found[end] + 1}), False)
            self.assertIs(is_rise(hall, list(found.items())), False)
            self.assertIs(is_rise(hall, tuple(found)), False)

    def test_by_every_row_of_numbers(self):
        for worths in itertools.product(range(4), repeat=3):
            thing = dict(zip(("wash", "fill", "sort"), worths))
            self.assertIs(is_rise(LIVE, thing), thing["fill"] < thing["sort"] < thing["wash"])

    def test_no_rise_of_a_dead_hall(self):
        for worths in itertools.product(range(-2, 3), repeat=2):
            self.assertIs(is_rise(DEAD, dict(zip(("cap", "fill"), worths))), False)


if __name__ == "__main__":
    unittest.main()
