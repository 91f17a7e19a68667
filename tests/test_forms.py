"""[12], [2]: what each name means."""

import itertools
import random
import unittest

from fillerfed.forms import (is_arc, is_belt, is_count, is_fraction, is_hall, is_integer, is_joined, is_machine, is_name, is_purse,
                             is_stops)
from samples import CAP, DEAD, FILL, HALL, LONE, WASH, Odd, any_values, exchanged, frozen, some_halls, some_stops

BELTS = HALL[1]
GREAT = 10 ** 40
WRONG_NAMES = ("", "a" * 13, "Cap", "caP", "cap1", "1", "cap\n", "\ncap", "a\nb", " cap", "cap ", "a b", "a_b", "a-b", "\u00e4", "`", "{",
               "@", None, True, 0, 1, b"cap", ["cap"], ("cap",), ("c", "a", "p"), {"cap": 1}, {})


class Forms(unittest.TestCase):
    def right(self, call, *values):
        for thing in values:
            self.assertIs(self.told(call, thing), True, repr(thing))

    def wrong(self, call, *values):
        for thing in values:
            self.assertIs(self.told(call, thing), False, repr(thing))

    def told(self, call, thing):
        """What a call tells of a value, which stays as it was; asked twice it tells the same."""
        before = frozen(thing)
        first = call(thing)
        self.assertIs(call(thing), first)
        self.assertEqual(frozen(thing), before)
        return first


def of_hall(call, hall):
    """A call of a HALL and a value as one of the value alone."""
    return lambda thing: call(hall, thing)


class AnyValuesTest(Forms):
    def test_no_value_makes_one_raise_or_is_changed(self):
        calls = [is_integer, is_count, is_name, is_fraction, is_purse, is_machine, is_belt, is_hall]
        calls += [of_hall(call, hall) for call in (is_stops, is_arc) for hall in (HALL, LONE, DEAD)]
        for call in calls:
            for thing in any_values():
                self.assertIn(self.told(call, thing), (True, False))

    def test_how_many_of_them_are_so(self):
        for call, many in ((is_integer, 6), (is_count, 4), (is_purse, 3), (is_fraction, 1)):
            self.assertEqual(sum(call(thing) for thing in any_values()), many, call)


class NumbersTest(Forms):
    def test_is_integer(self):
        self.right(is_integer, 0, 1, -1, GREAT, -GREAT)
        self.wrong(is_integer, True, False, None, 1.0, "1", "", (1,), [1], {1: 1}, b"1", 1j)

    def test_is_count(self):
        self.right(is_count, 0, 1, 7, GREAT)
        self.wrong(is_count, -1, -GREAT, True, False, None, 0.0, "0", (0,), [0], {})

    def test_is_name(self):
        self.right(is_name, "a", "z", "az", "cap", "a" * 12, "abcdefghijkl", "mnopqrstuvwx", "yz", "machine", "next")
        self.wrong(is_name, *WRONG_NAMES)

    def test_is_fraction(self):
        self.right(is_fraction, (0, 1), (1, 1), (-1, 1), (3, 2), (-3, 2), (GREAT, GREAT + 1), (1, GREAT), (-GREAT, 1))
        self.wrong(is_fraction, (0, 2), (2, 4), (-2, 4), (2, 2), (1, 0), (0, 0), (1, -2), (0, -1), (-1, -1), (GREAT, GREAT))
        self.wrong(is_fraction, (), (1,), (1, 2, 3), [1, 2], (1.0, 2), (True, 1), (1, True), (False, 1), (None, 1), (1, None), ("1", 2))
        self.wrong(is_fraction, {1: 2, 3: 4}, 1, "12", ((1, 2), 1), (1, (2,)))


class PartsTest(Forms):
    def test_is_purse(self):
        self.right(is_purse, (1, 0), (1, 1), (2, 9), (100, 100), (GREAT, GREAT))
        self.wrong(is_purse, (0, 0), (0, 1), (-1, 1), (1, -1), (-GREAT, 1), (1, -GREAT), (), (1,), (1, 1, 1), [1, 1])
        self.wrong(is_purse, *exchanged((2, 3)))

    def test_is_machine(self):
        self.right(is_machine, FILL, CAP, WASH, ("a", 1, ()), ("a" * 12, GREAT, ((1, 0),) * 9), ("machine", 100, ((GREAT, GREAT),)))
        self.wrong(is_machine, *exchanged(WASH))
        self.wrong(is_machine, *(("cap", time, ()) for time in (0, -1, True, 1.0, "1", None)))
        self.wrong(is_machine, *((name, 1, ()) for name in WRONG_NAMES))
        self.wrong(is_machine, ("cap", 2), ("cap", 2, (), ()), ("cap",), (), ["cap", 2, ()], ("cap", 2, []), ("cap", 2, None), ("cap", 2, (1, 1)),
                   ("cap", 2, ((1, 1), (0, 1))), ("cap", 2, ((1, 1), [1, 1])), ("cap", 2, [(1, 1)]), ("cap", 2, {}), ("cap", 2, {(1, 1): 1}),
                   ("cap", 2, ((1, 1, 1),)), ("cap", 2, ((1,),)), (2, "cap", ()), ("cap", 2, ""))

    def test_is_belt(self):
        self.right(is_belt, ("a", "b", 1, 0), ("a", "b", 1, 1), ("b", "a", 3, 2), ("belt", "down", 20, 20), ("a", "b", GREAT, GREAT),
                   ("a" * 12, "b" * 12, GREAT, 0))
        self.wrong(is_belt, *exchanged(("a", "b", 3, 2)))
        self.wrong(is_belt, *((name, "x", 1, 1) for name in WRONG_NAMES), *(("x", name, 1, 1) for name in WRONG_NAMES))
        self.wrong(is_belt, ("a", "a", 3, 3), ("a", "b", 0, 0), ("a", "b", -1, -1), ("a", "b", -1, 0), ("a", "b", 2, 3), ("a", "b", 2, -1),
                   ("a", "b", True, 1), ("a", "b", 1, True), ("a", "b", 1, False), ("a", "b", GREAT, GREAT + 1), ("a", "b", 1.0, 1))
        self.wrong(is_belt, ("a", "b", 1), ("a", "b", 1, 0, 0), (), ["a", "b", 1, 0], ("a", "b"), {"a": 1, "b": 2, "c": 3, "d": 4}, "abcd")


class HallsTest(Forms):
    def test_halls(self):
        self.right(is_hall, HALL, LONE, DEAD, (HALL[0], BELTS[::-1], "fill"), *some_halls(1))

    def test_beyond_the_bounds(self):
        names = sorted("".join(letters) for letters in itertools.product("abcdefghij", repeat=3))
        machines = tuple((name, GREAT, ()) for name in names)
        belts = tuple((one, other, GREAT, GREAT) for one, other in zip(names, names[1:]))
        self.right(is_hall, (machines, belts, names[7]), (machines, belts * 2, names[-1]))
        self.wrong(is_hall, (machines, belts[:-1], names[7]), (machines, belts[:500] + belts[501:], names[7]))

    def test_with_any_part_exchanged(self):
        self.wrong(is_hall, *exchanged(HALL))

    def test_too_short_and_too_long(self):
        self.wrong(is_hall, (), HALL[:1], HALL[:2], HALL + ((),), HALL + ("fill",), [HALL[0], BELTS, "fill"], ((), (), ""), ((), (), None),
                   ((), (), "fill"), (HALL,))

    def test_machines_have_to_ascend(self):
        for order in itertools.permutations(HALL[0]):
            self.assertIs(is_hall((order, BELTS, "fill")), order == HALL[0])
        self.wrong(is_hall, ((CAP, CAP, FILL, WASH), BELTS, "fill"), ((CAP, FILL, FILL, WASH), BELTS, "fill"),
                   ((CAP, ("cap", 3, ()), FILL, WASH), BELTS, "fill"), ((FILL, FILL), (), "fill"))

    def test_belts_of_machines_that_are_not_told(self):
        self.wrong(is_hall, (HALL[0], BELTS + (("cap", "box", 1, 0),), "fill"), (HALL[0], BELTS + (("box", "cap", 1, 0),), "fill"),
                   (HALL[0][:2], BELTS, "fill"), ((FILL,), (("a", "b", 1, 0),), "fill"))

    def test_the_filler(self):
        self.wrong(is_hall, *((HALL[0], BELTS, name) for name in WRONG_NAMES), (HALL[0], BELTS, "box"), (HALL[0], BELTS, FILL),
                   (HALL[0], BELTS, "cap"), (HALL[0], BELTS, "wash"))
        self.right(is_hall, ((("cap", 2, ()), FILL, WASH), BELTS, "cap"), ((("cap", 2, ()), FILL, WASH), BELTS, "fill"))

    def test_each_machine_has_to_be_joined(self):
        self.wrong(is_hall, (HALL[0], BELTS[:1], "fill"), (HALL[0], BELTS[1:], "fill"), (HALL[0], (), "fill"))
        self.wrong(is_hall, (HALL[0], BELTS[:1] * 2, "fill"), (HALL[0], (("wash", "cap", 1, 0),) * 3, "fill"))
        self.right(is_hall, (HALL[0], (("fill", "wash", 1, 0), ("fill", "cap", 1, 0)), "fill"),
                   (HALL[0], (("wash", "fill", 1, 0), ("cap", "fill", 1, 0)), "fill"),
                   (HALL[0], (("wash", "cap", 1, 0), ("cap", "fill", 1, 0)), "fill"),
                   (HALL[0], (("cap", "wash", 1, 0), ("fill", "wash", 1, 0)), "fill"), (HALL[0], BELTS + BELTS, "fill"))

    def test_live_or_not(self):
        self.right(is_hall, DEAD, (DEAD[0], (("fill", "cap", 2, 0), ("cap", "fill", 1, 1)), "fill"))


class StopsTest(Forms):
    def test_stops(self):
        call = of_hall(is_stops, HALL)
        self.right(call, {}, {("wash", 0, 0): 9}, {("wash", 0, 1): 1, ("cap", 7, 0): 1, ("wash", 0, 0): GREAT}, {("cap", GREAT, 0): 1})
        for order in itertools.permutations([(("wash", 3, 1), 2), (("wash", 3, 0), 1), (("cap", 0, 0), 5)]):
            self.right(call, dict(order))
        self.right(of_hall(is_stops, LONE), {})
        self.wrong(of_hall(is_stops, LONE), {("fill", 0, 0): 1}, {("cap", 0, 0): 1})

    def test_keys_and_values_wrong_at_each_place(self):
        call = of_hall(is_stops, HALL)
        spoilt = [("fill", 0, 0), ("box", 0, 0), ("wash", 0, 2), ("cap", 0, 1), ("cap", 0, -1), ("cap", -1, 0), ("cap", True, 0),
                  ("cap", 0, False), ("cap", 0), ("cap", 0, 0, 0), ("cap",), (), "cap", 0, None, True, ("cap", "0", 0), ("cap", 0, None),
                  (None, 0, 0), (0, 0, "cap"), ("Cap", 0, 0), ("cap\n", 0, 0), (("cap",), 0, 0), ("cap", (0,), 0), ("cap", 0.0, 0),
                  ("cap", 0, GREAT)]
        for key in spoilt:
            self.wrong(call, {key: 1}, {("wash", 0, 0): 1, key: 1}, {key: 1, ("wash", 0, 0): 1})
        for ticks in (0, -1, -GREAT, True, False, None, 1.0, "1", (1,), [1], {}):
            self.wrong(call, {("cap", 0, 0): ticks}, {("wash", 0, 0): 1, ("cap", 0, 0): ticks}, {("cap", 0, 0): ticks, ("wash", 0, 0): 1})

    def test_no_dict(self):
        self.wrong(of_hall(is_stops, HALL), (), [], None, "", 0, True, (("cap", 0, 0), 1), [(("cap", 0, 0), 1)], {("cap", 0, 0)}, HALL)

    def test_of_halls(self):
        dice = random.Random(2)
        for hall in some_halls(2):
            self.right(of_hall(is_stops, hall), some_stops(dice, hall))
            for name, _, purses in hall[0]:
                self.wrong(of_hall(is_stops, hall), {(name, 0, len(purses)): 1})


class ArcsTest(Forms):
    def test_each_kind(self):
        call = of_hall(is_arc, HALL)
        self.right(call, ("next", "cap"), ("next", "fill"), ("next", "wash"), ("down", 0), ("down", 1), ("up", 0), ("up", 1))
        self.right(of_hall(is_arc, LONE), ("next", "fill"))
        self.wrong(of_hall(is_arc, LONE), ("down", 0), ("up", 0), ("next", "cap"))

    def test_index_or_name_that_is_not_there(self):
        self.wrong(of_hall(is_arc, HALL), ("next", "box"), ("next", "Cap"), ("next", ""), ("down", 2), ("up", 2), ("down", -1), ("up", -1),
                   ("down", GREAT), ("up", -GREAT))

    def test_wrong_kinds(self):
        call = of_hall(is_arc, HALL)
        self.wrong(call, ("next", 0), ("down", "cap"), ("up", "0"), ("down", True), ("up", False), ("down", 0.0), ("down", None), ("next", None),
                   ("next", ["cap"]), ("next", ("cap",)), ("down", [0]), ("over", 0), ("Next", "cap"), ("", 0), (0, "down"), (None, 0),
                   (("down",), 0), ["down", 0], ("down",), ("down", 0, 0), (), "down", None, {"down": 0}, (("down", 0),), ("next", {}))
        self.wrong(call, (Odd(), 0), (Odd(), "cap"), ("next", Odd()), ("down", Odd()), Odd())
        for arc in (("next", "cap"), ("down", 0), ("up", 1)):
            self.wrong(call, *exchanged(arc))

    def test_of_halls(self):
        for hall in some_halls(3):
            for name, _, _ in hall[0]:
                self.right(of_hall(is_arc, hall), ("next", name))
            for index in range(len(hall[1])):
                self.right(of_hall(is_arc, hall), ("down", index), ("up", index))
            self.wrong(of_hall(is_arc, hall), ("down", len(hall[1])), ("up", len(hall[1])), ("next", "nobody"))


class JoinedTest(unittest.TestCase):
    def test_both_ways_along_belts(self):
        belts = (("a", "b", 1, 0), ("c", "b", 1, 0))
        for name in "abc":
            self.assertIs(is_joined(("a", "b", "c"), belts, name), True)
            self.assertIs(is_joined(("a", "b", "c"), belts[:1], name), False)
            self.assertIs(is_joined(("a", "b", "c"), belts[1:], name), False)
            self.assertIs(is_joined(("a", "b", "c"), belts + belts, name), True)

    def test_one_name_alone(self):
        self.assertIs(is_joined(("a",), (), "a"), True)
        self.assertIs(is_joined(("a", "b"), (), "a"), False)

    def test_two_heaps(self):
        belts = (("a", "b", 1, 0), ("b", "a", 1, 0), ("d", "c", 1, 0), ("c", "d", 2, 2))
        for name in "abcd":
            self.assertIs(is_joined(("a", "b", "c", "d"), belts, name), False)
            self.assertIs(is_joined(("a", "b", "c", "d"), belts + (("d", "a", 1, 1),), name), True)

    def test_of_one_machine_it_is_so_of_all(self):
        for hall in some_halls(4):
            names = tuple(machine[0] for machine in hall[0])
            for left_out in range(len(hall[1]) + 1):
                belts = hall[1][:left_out] + hall[1][left_out + 1:]
                found = {is_joined(names, belts, name) for name in names}
                self.assertEqual(len(found), 1)
                without_purses = tuple((name, 1, ()) for name in names)
                self.assertEqual(found, {is_hall((without_purses, belts, hall[2]))})


if __name__ == "__main__":
    unittest.main()
