"""[25]: tables, by which no walk pays."""

import random
import unittest

from fillerfed.errors import Dead, TooMany
from fillerfed.rings import dead_ring, is_live
from fillerfed.states import full_state, states_of
from fillerfed.tables import gains, is_table
from samples import (DEAD, HALL, LONE, NEVER_RIGHT, any_values, check_new, frozen, least_pace, live_halls, own_behind, own_full, own_gains,
                     leads, raised, same_after, some_halls, with_pace)

EVEN = ((("cap", 2, ((2, 0),)), ("fill", 4, ()), ("wash", 2, ((2, 0),))), (("wash", "cap", 1, 1), ("cap", "fill", 1, 1)), "fill")
WORSE = ((("cap", 2, ((2, 0),)), ("fill", 4, ()), ("wash", 2, ((3, 0),))),) + EVEN[1:]
SMALL = [hall for hall, _ in live_halls(90, 400, 4)]


# With the least PACE with which they HOLD.
JUST = [with_pace(hall, least_pace(hall)) for hall in SMALL if least_pace(hall)]


def own_is_table(hall, table):
    """Whether a dict from STATES to integers is a TABLE, by the words of the definition."""
    pace = {name: time for name, time, _ in hall[0]}[hall[2]]
    for name, _, _ in hall[0]:
        if table.get(own_full(hall, name), -1) < 0:
            return False
    for state, gain in table.items():
        for arc, start, _, growth in leads(hall):
            if start == state[0]:
                later, ticks = own_behind(hall, state, arc)
                now = gain + ticks - pace * growth
                if later[0] == hall[2]:
                    if now > 0:
                        return False
                elif later not in table or table[later] < now:
                    return False
    return True


def is_of(hall, state):
    """Whether a STATE of some HALL is one of this HALL, too."""
    name, contents = state
    purses = [purses for _, _, purses in hall[0]]
    if name not in [one for one, _, _ in hall[0]] or [len(row) for row in contents] != [len(row) for row in purses]:
        return False
    return all(content <= size for row, told in zip(purses, contents) for (size, _), content in zip(row, told))


def closed_above(hall, table):
    """The dict in which each STATE has what leads there from the others, if it is more than it has; a few times round."""
    pace = {name: time for name, time, _ in hall[0]}[hall[2]]
    table = dict(table)
    for _ in range(len(table)):
        for state in list(table):
            for arc, start, _, growth in leads(hall):
                later, ticks = own_behind(hall, state, arc) if start == state[0] else (None, 0)
                if later in table and later[0] != hall[2]:
                    table[later] = max(table[later], table[state] + ticks - pace * growth)
    return table


class GainsTest(unittest.TestCase):
    def test_against_own_greatest_gains(self):
        kinds = {True: 0, False: 0}
        for hall in SMALL + JUST:
            told = own_gains(hall)
            self.assertEqual(frozen(same_after(self, gains, hall)), frozen(told))
            kinds[told is None] += 1
        self.assertGreater(min(kinds.values()), 40)

    def test_where_the_pace_is_just_enough_and_one_less(self):
        less = 0
        for hall in JUST:
            found = gains(hall)
            self.assertEqual(list(found), list(states_of(hall)))
            self.assertIs(is_table(hall, found), True)
            self.assertTrue(own_is_table(hall, found))
            pace = dict((name, time) for name, time, _ in hall[0])[hall[2]]
            if pace > 1:
                self.assertIsNone(gains(with_pace(hall, pace - 1)))
                less += 1
        self.assertGreater(less, 50)

    def test_0_and_below_0(self):
        self.assertEqual(set(gains(EVEN).values()), {0})
        self.assertIsNone(gains(WORSE))
        hall = ((("cap", 2, ((2, 0),)), ("fill", 9, ())), (("cap", "fill", 1, 1),), "fill")
        # Behind a next ARC of cap 4 ticks have gone by, and a piece of 9.
        self.assertEqual(gains(hall), {("cap", ((0,), ())): -5, ("cap", ((2,), ())): 0, ("fill", ((2,), ())): 0})
        self.assertEqual(gains(LONE), {("fill", ((),)): 0})

    def test_a_full_state_to_which_one_comes_with_more(self):
        # The belt from wash is empty at first: its time has gone by when one comes to cap, whose PURSE is still full.
        hall = ((("cap", 1, ((1, 0),)), ("fill", 3, ()), ("wash", 2, ())), (("wash", "cap", 1, 0), ("cap", "fill", 2, 2)), "fill")
        found = gains(hall)
        self.assertEqual([found[full_state(hall, name)] for name in ("cap", "fill", "wash")], [2, 0, 0])
        self.assertEqual(found, own_gains(hall))

    def test_a_new_dict_each_time(self):
        for hall in (EVEN, LONE):
            check_new(self, gains, hall)

    def test_dead_and_too_many(self):
        for hall in [hall for hall in some_halls(91, 60) if not is_live(hall)] + [DEAD]:
            self.assertEqual(raised(self, Dead, gains, hall).ring, dead_ring(hall))
        for pace in (1, 1000):
            many = ((("cap", 1, ((10001, 1),)), ("fill", pace, ()), ("wash", 1, ())), (("wash", "cap", 1, 0), ("cap", "fill", 1, 1)), "fill")
            self.assertEqual(raised(self, TooMany, gains, many).most, 20000)
            raised(self, TooMany, states_of, many)


class IsTableTest(unittest.TestCase):
    def test_one_integer_otherwise(self):
        dice = random.Random(92)
        for hall in JUST:
            table = gains(hall)
            fulls = [full_state(hall, name) for name, _, _ in hall[0]]
            for state in dice.sample(sorted(table), min(6, len(table))):
                less = {**table, state: table[state] - 1}
                # Each integer is what some way gains, or the 0 of a full STATE: no TABLE has a lesser one.
                self.assertIs(same_after(self, is_table, hall, less), False)
                more = {**table, state: table[state] + 1}
                self.assertIs(same_after(self, is_table, hall, more), own_is_table(hall, more))
                without = {key: gain for key, gain in table.items() if key != state}
                self.assertIs(is_table(hall, without), own_is_table(hall, without))
                if state in fulls:
                    self.assertIs(is_table(hall, without), False)
            mixed = list(table.items())
            dice.shuffle(mixed)
            self.assertIs(is_table(hall, dict(mixed)), True)

    def test_no_table_has_a_lesser_integer(self):
        dice = random.Random(93)
        kinds = {True: 0, False: 0}
        for hall in JUST:
            slack = with_pace(hall, dict((name, time) for name, time, _ in hall[0])[hall[2]] + dice.choice((0, 1, 3)))
            least = gains(slack)
            for _ in range(4):
                table = closed_above(slack, {**least, dice.choice(list(least)): dice.randint(0, 3)})
                if dice.random() < 0.3:
                    table[dice.choice(list(least))] -= 1
                told = own_is_table(slack, table)
                self.assertIs(is_table(slack, table), told)
                kinds[told] += table != least
                if told:
                    self.assertTrue(all(table[state] >= gain for state, gain in least.items()))
        self.assertGreater(min(kinds.values()), 40)

    def test_states_more(self):
        hall = ((("cap", 2, ((2, 0),)), ("fill", 9, ())), (("cap", "fill", 1, 1),), "fill")
        table = gains(hall)
        # From cap, holding 1, one comes to it holding nothing, and to the FILLER.
        for gain, told in ((-5, True), (-3, True), (6, False), (0, True), (1, True), (2, False)):
            more = {**table, ("cap", ((1,), ())): gain}
            self.assertIs(is_table(hall, more), told and own_is_table(hall, more))
            self.assertIs(own_is_table(hall, more), told)
        self.assertIs(is_table(hall, {**table, ("fill", ((0,), ())): 0}), False)
        self.assertIs(is_table(hall, {**table, ("fill", ((0,), ())): 0, ("cap", ((0,), ())): 0}), own_is_table(
            hall, {**table, ("fill", ((0,), ())): 0, ("cap", ((0,), ())): 0}))

    def test_wrong_keys_and_integers(self):
        table = gains(EVEN)
        full = full_state(EVEN, "cap")
        for thing in (*NEVER_RIGHT, True, False, "0", 0.0, (0,), [0]):
            if type(thing) is not int:
                self.assertIs(is_table(EVEN, {**table, full: thing}), False)
        for key in (None, 0, "cap", True, ("cap",), ("cap", ((3,), (), (2,))), ("cap", ((2,), (2,))), ("nobody", full[1]), ("cap", ((-1,), (), (2,))), (), b""):
            self.assertIs(is_table(EVEN, {**table, key: 0}), False)
        # A key that is equal to a STATE and is none, as a truth stands in it.
        true = {key if key != ("cap", ((0,), (), (2,))) else ("cap", ((False,), (), (2,))): gain for key, gain in table.items()}
        self.assertEqual(true, table)
        self.assertIs(is_table(EVEN, true), False)
        self.assertIs(is_table(EVEN, list(table.items())), False)
        self.assertIs(is_table(EVEN, tuple(table)), False)

    def test_of_other_halls(self):
        tables = [gains(hall) for hall in JUST]
        for at, hall in enumerate(JUST):
            for table in tables[at - 3:at]:
                told = all(is_of(hall, state) for state in table) and own_is_table(hall, table)
                self.assertIs(is_table(hall, table), told)
        self.assertEqual([is_table(WORSE, gains(EVEN)), is_table(EVEN, gains(EVEN))], [False, True])
        self.assertIs(is_table(with_pace(EVEN, 3), gains(EVEN)), False)
        self.assertIs(is_table(with_pace(EVEN, 5), gains(EVEN)), True)

    def test_any_value(self):
        for hall in (EVEN, LONE, DEAD, HALL):
            for thing in any_values():
                self.assertIs(is_table(hall, thing), False)
                if type(thing) is not int:
                    self.assertIs(is_table(hall, {own_full(hall, name): thing for name, _, _ in hall[0]}), False)
        self.assertEqual([is_table(LONE, {("fill", ((),)): gain}) for gain in (-1, 0, 1)], [False, True, False])


if __name__ == "__main__":
    unittest.main()
