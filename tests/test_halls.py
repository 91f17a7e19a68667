"""[15]: what a hall has, and halls with something else in one place."""

import unittest

from fillerfed.errors import NoBelt, NoMachine
from fillerfed.forms import is_hall
from fillerfed.halls import (belts_from, belts_to, machine_of, names_of, neighbours, pace_of, purse_places, purses_of, time_of, with_belt,
                             with_purses, with_time)
from samples import DEAD, HALL, LONE, raised, same_after, some_halls

SEVERAL = (HALL[0], (("wash", "fill", 1, 1), ("fill", "cap", 1, 0), ("fill", "wash", 2, 1), ("wash", "fill", 3, 0), ("cap", "fill", 2, 2)), "fill")
HALLS = [HALL, LONE, DEAD, SEVERAL] + some_halls(13, 48)
BY_NAME = (machine_of, time_of, purses_of, belts_to, belts_from, neighbours)


class PartsTest(unittest.TestCase):
    def test_machines(self):
        for hall in HALLS:
            names = same_after(self, names_of, hall)
            self.assertIs(type(names), tuple)
            self.assertEqual(list(names), [name for name, _, _ in hall[0]])
            self.assertEqual(list(names), sorted(set(names)))
            for machine in hall[0]:
                name, time, purses = machine
                self.assertEqual(same_after(self, machine_of, hall, name), machine)
                self.assertEqual(same_after(self, time_of, hall, name), time)
                self.assertEqual(same_after(self, purses_of, hall, name), purses)
                if name == hall[2]:
                    self.assertEqual(same_after(self, pace_of, hall), time)

    def test_purse_places(self):
        self.assertEqual([purse_places(HALL), purse_places(LONE)], [(("cap", 0), ("wash", 0), ("wash", 1)), ()])
        for hall in HALLS:
            found = same_after(self, purse_places, hall)
            self.assertIs(type(found), tuple)
            self.assertEqual(sorted(found), list(found))
            self.assertEqual(len(set(found)), sum(len(purses) for _, _, purses in hall[0]))
            for name, index in found:
                self.assertIn(index, range(len(purses_of(hall, name))))

    def test_belts(self):
        self.assertEqual([belts_to(SEVERAL, "fill"), belts_from(SEVERAL, "fill"), neighbours(SEVERAL, "fill")], [(0, 3, 4), (1, 2), ("cap", "wash")])
        self.assertEqual([belts_to(SEVERAL, "wash"), belts_from(SEVERAL, "wash"), neighbours(SEVERAL, "wash")], [(2,), (0, 3), ("fill",)])
        self.assertEqual([belts_to(LONE, "fill"), belts_from(LONE, "fill"), neighbours(LONE, "fill")], [(), (), ()])

    def test_belts_of_halls(self):
        for hall in HALLS:
            for name in names_of(hall):
                there = same_after(self, belts_to, hall, name)
                back = same_after(self, belts_from, hall, name)
                beside = same_after(self, neighbours, hall, name)
                self.assertEqual([type(found) for found in (there, back, beside)], [tuple] * 3)
                self.assertEqual([index in there for index in range(len(hall[1]))], [belt[1] == name for belt in hall[1]])
                self.assertEqual([index in back for index in range(len(hall[1]))], [belt[0] == name for belt in hall[1]])
                self.assertEqual([list(there), list(back)], [sorted(set(there)), sorted(set(back))])
                self.assertNotIn(name, beside)
                self.assertEqual(list(beside), sorted({part for belt in hall[1] for part in belt[:2] if name in belt[:2]} - {name}))


class WithTest(unittest.TestCase):
    def test_with_time(self):
        for hall in HALLS:
            for place, (name, time, purses) in enumerate(hall[0]):
                for other in (1, time, 99, 10 ** 12):
                    found = same_after(self, with_time, hall, name, other)
                    self.assertEqual(found, (hall[0][:place] + ((name, other, purses),) + hall[0][place + 1:], hall[1], hall[2]))
                    self.assertTrue(is_hall(found))

    def test_with_purses(self):
        for hall in HALLS:
            for place, (name, time, purses) in enumerate(hall[0]):
                for other in ((),) if name == hall[2] else ((), purses, ((1, 0),), ((2, 1), (2, 1), (9, 9))):
                    found = same_after(self, with_purses, hall, name, other)
                    self.assertEqual(found, (hall[0][:place] + ((name, time, other),) + hall[0][place + 1:], hall[1], hall[2]))
                    self.assertTrue(is_hall(found))

    def test_with_belt(self):
        for hall in HALLS:
            for index, (start, end, room, first) in enumerate(hall[1]):
                for other in ((room, first), (1, 0), (1, 1), (20, 20), (10 ** 12, 3)):
                    found = same_after(self, with_belt, hall, index, *other)
                    self.assertEqual(found, (hall[0], hall[1][:index] + ((start, end) + other,) + hall[1][index + 1:], hall[2]))
                    self.assertTrue(is_hall(found))


class ErrorsTest(unittest.TestCase):
    def test_no_machine(self):
        for hall in HALLS:
            for name in ("nobody", "z" * 12, hall[2] + "q"):
                for call in BY_NAME:
                    self.assertEqual(raised(self, NoMachine, call, hall, name).name, name)
                self.assertEqual(raised(self, NoMachine, with_time, hall, name, 3).name, name)
                self.assertEqual(raised(self, NoMachine, with_purses, hall, name, ()).name, name)
                self.assertEqual(raised(self, NoMachine, with_purses, hall, name, ((1, 1),)).name, name)

    def test_no_belt(self):
        for hall in HALLS:
            for index in (len(hall[1]), len(hall[1]) + 1, -1, -2, -len(hall[1]) - 1, 10 ** 40, -10 ** 40):
                error = raised(self, NoBelt, with_belt, hall, index, 2, 1)
                self.assertEqual((type(error.index), error.index), (int, index))


if __name__ == "__main__":
    unittest.main()
