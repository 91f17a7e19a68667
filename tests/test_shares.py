"""[29]: shares, and lines in which nothing can be spared; [7]: what is promised of them."""

import random
import unittest

from fillerfed.forms import is_hall
from fillerfed.halls import with_belt, with_purses, with_time
from fillerfed.shares import has_shares, is_just_so, share_gain, slacks, spoiled, straight_gains
from fillerfed.states import states_of
from fillerfed.tables import is_table
from fillerfed.trees import is_line
from fillerfed.verdicts import holds
from samples import (DEAD, HALL, LONE, check_new, drawn_tree, drawn_trees, frozen, own_behind, own_belts_home, own_full, own_pace,
                     same_after, some_halls, with_pace)

TREES = drawn_trees(140) + [LONE]
SMALL = [hall for hall in TREES if len(hall[0]) <= 5]


def own_parts(hall, name):
    """The numbers p, s, g, r, R of a machine of a TREE, by the words of the definition."""
    machines = {one: (time, purses) for one, time, purses in hall[0]}
    time, purses = machines[name]
    belts = own_belts_home(hall, name)
    ahead = [hall[1][index][0] for index in belts[1:]]
    home = sum(back for one in ahead for _, back in machines[one][1])
    return time, sum(size for size, _ in purses), sum(back for _, back in purses), hall[1][belts[0]][2], home


def own_slacks(hall):
    pace = own_pace(hall)
    found = {}
    for name in [name for name, _, _ in hall[0] if name != hall[2]]:
        time, size, back, room, home = own_parts(hall, name)
        found[name] = (pace - time - back - home, room * (pace - home) - time - size)
    return found


def own_share_gain(hall, state):
    """The sum over all machines of the way home, each by itself."""
    name, contents = state
    told = {machine[0]: row for machine, row in zip(hall[0], contents)}
    gain = 0
    while name != hall[2]:
        time, _, _, room, home = own_parts(hall, name)
        gain += room * (own_pace(hall) - home) - time - sum(told[name])
        name = [end for start, end, _, _ in hall[1] if start == name][0]
    return gain


def own_straight_gain(hall, name):
    """The GAIN of going up to a machine and down again, ARC by ARC."""
    belts = own_belts_home(hall, name)
    state = own_full(hall, hall[2])
    gain = 0
    for kind, index in [("up", index) for index in belts[::-1]] + [("down", index) for index in belts]:
        state, ticks = own_behind(hall, state, (kind, index))
        gain += ticks - (own_pace(hall) * hall[1][index][2] if kind == "down" else 0)
    return gain


def pace_with_shares(hall):
    """The least PACE with which all integers of slacks are from 0 on."""
    pace = 1
    while any(one < 0 for slack in own_slacks(with_pace(hall, pace)).values() for one in slack):
        pace += 1
    return pace


def chain_line(pace, rows, names=("cap", "dip", "egg", "wash")):
    """The LINE with this PACE and rows (time, size, back, room), from the machine at the FILLER on."""
    machines = [(name, time, ((size, back),)) for name, (time, size, back, _) in zip(names, rows)] + [("fill", pace, ())]
    belts = [(name, end, row[3], row[3]) for name, end, row in zip(names, ("fill",) + names, rows)]
    return (tuple(sorted(machines)), tuple(belts), "fill")


def even_line(pace, parts):
    """The LINE of rows (back, room) whose times and sizes are such that all integers of slacks are 0; None if there is none."""
    rows = []
    home = 0
    for back, room in parts:
        time = pace - back - home
        size = room * (pace - home) - time
        if time < 1 or size < 1:
            return None
        rows.append((time, size, back, room))
        home += back
    return chain_line(pace, rows)


def depths(parts, line):
    """For each machine of such a LINE how much its size is above what is asked of it."""
    names = ("cap", "dip", "egg", "wash")
    purses = {name: row for name, _, row in line[0]}
    found = []
    for at, (back, _) in enumerate(parts):
        ahead = [room for _, room in parts[at + 1:]]
        found.append(purses[names[at]][0][0] - (back + 1) * (sum(ahead) + len(ahead) + 1))
    return found


def even_lines(seed, rounds):
    """Couples (line, depths) of drawn LINES all integers of whose slacks are 0."""
    dice = random.Random(seed)
    found = []
    for _ in range(rounds):
        parts = [(dice.choice((0, 0, 0, 1, 2)), dice.randint(1, 6)) for _ in range(dice.randint(1, 4))]
        line = even_line(dice.randint(1, 14), parts)
        if line is not None:
            found.append((line, depths(parts, line)))
    return found


EVEN = even_lines(141, 400)
JUST_SO = [line for line, depth in EVEN if min(depth) >= 0]
WITH_ONE = [hall for hall in drawn_trees(142) if is_line(hall) and all(len(purses) == 1 or name == hall[2] for name, _, purses in hall[0])]


def one_purse_line(dice, many):
    """A LINE each of whose machines but the FILLER has one PURSE."""
    machines, belts, filler = drawn_tree(dice, many, True)
    purse = (dice.randint(1, 5), dice.randint(0, 2))
    return (tuple((name, time, () if name == filler else (purse,)) for name, time, _ in machines), belts, filler)


class SlacksTest(unittest.TestCase):
    def test_against_own_sums(self):
        kinds = {True: 0, False: 0}
        counts = {}
        for hall in TREES + [with_pace(hall, pace_with_shares(hall)) for hall in TREES] + JUST_SO:
            told = own_slacks(hall)
            self.assertEqual(frozen(same_after(self, slacks, hall)), frozen(told))
            shares = all(one >= 0 for slack in told.values() for one in slack)
            self.assertIs(same_after(self, has_shares, hall), shares)
            kinds[shares] += 1
            for _, _, purses in hall[0]:
                counts[len(purses)] = counts.get(len(purses), 0) + 1
        self.assertGreater(min(kinds.values()), 40)
        self.assertGreater(min(counts[many] for many in range(4)), 20)

    def test_at_the_bound_and_one_below(self):
        below = 0
        for hall in TREES:
            pace = pace_with_shares(hall)
            self.assertIs(has_shares(with_pace(hall, pace)), True)
            self.assertIs(has_shares(with_pace(hall, pace + 1)), True)
            if pace > 1:
                self.assertIs(has_shares(with_pace(hall, pace - 1)), False)
                below += 1
        self.assertGreater(below, 60)

    def test_each_integer_by_itself(self):
        line = chain_line(6, [(4, 8, 2, 2), (1, 3, 3, 1)])
        self.assertEqual([slacks(line), has_shares(line)], [{"cap": (0, 0), "dip": (0, 0)}, True])
        for other in (with_time(line, "cap", 5), with_time(line, "dip", 2), with_purses(line, "cap", ((9, 2),)), with_purses(line, "dip", ((4, 3),)),
                      with_purses(line, "cap", ((8, 3),)), with_purses(line, "dip", ((3, 4),)), with_belt(line, 0, 1, 1)):
            self.assertIs(has_shares(other), False)
        for other in (with_time(line, "cap", 3), with_purses(line, "cap", ((7, 2),)), with_purses(line, "dip", ((3, 2),)), with_purses(line, "dip", ()),
                      with_belt(line, 0, 3, 3), with_belt(line, 1, 2, 2)):
            self.assertIs(has_shares(other), True)

    def test_backs_on_the_way_home(self):
        # Box joins at dip: what is ahead of it counts, what is beside it and behind it does not.
        machines = (("box", 1, ((2, 7),)), ("cap", 1, ((1, 1), (2, 2))), ("dip", 1, ((4, 3),)), ("fill", 20, ()), ("pot", 2, ((9, 9),)))
        hall = (machines, (("box", "dip", 3, 3), ("dip", "cap", 2, 2), ("cap", "fill", 1, 1), ("pot", "dip", 1, 1)), "fill")
        self.assertEqual(slacks(hall), {"box": (20 - 1 - 7 - 6, 3 * 14 - 3), "cap": (16, 20 - 4), "dip": (20 - 1 - 3 - 3, 2 * 17 - 5),
                                        "pot": (20 - 2 - 9 - 6, 14 - 2 - 9)})

    def test_the_filler_alone(self):
        self.assertEqual([slacks(LONE), has_shares(LONE), straight_gains(LONE), is_just_so(LONE), spoiled(LONE)], [{}, True, {}, False, []])
        self.assertEqual(share_gain(LONE, ("fill", ((),))), 0)

    def test_new_each_time(self):
        for call in (slacks, straight_gains):
            check_new(self, call, TREES[5])


class ShareGainTest(unittest.TestCase):
    def test_at_states(self):
        dice = random.Random(143)
        for hall in TREES:
            states = [own_full(hall, name) for name, _, _ in hall[0]]
            for name, _, _ in hall[0]:
                states.append((name, tuple(tuple(dice.randint(0, size) for size, _ in purses) for _, _, purses in hall[0])))
                states.append((name, tuple(tuple(0 for _ in purses) for _, _, purses in hall[0])))
            for state in states:
                self.assertEqual(same_after(self, share_gain, hall, state), own_share_gain(hall, state))
                self.assertTrue(state[0] != hall[2] or share_gain(hall, state) == 0)

    def test_a_tree_with_shares_holds_and_these_are_a_table(self):
        checked = 0
        for hall in SMALL:
            for more in (0, 2):
                shared = with_pace(hall, pace_with_shares(hall) + more)
                states = states_of(shared)
                self.assertIs(holds(shared), True)
                self.assertIs(is_table(shared, {state: share_gain(shared, state) for state in states}), True)
                checked += len(states) > 5
        self.assertGreater(checked, 40)

    def test_it_holds_however_great_its_purses_are(self):
        # Its room makes good all of a great PURSE; of a piece no more than the PACE can be taken for ever.
        for size in (10, 60, 100):
            line = chain_line(10, [(5, size, 5, (size + 14) // 10)])
            self.assertEqual([has_shares(line), holds(line)], [True, True])
            self.assertEqual([holds(with_purses(line, "cap", ((size, 6),))), holds(with_pace(line, 9))], [False, False])


class StraightTest(unittest.TestCase):
    def test_against_own_sums(self):
        signs = {True: 0, False: 0}
        for hall in TREES:
            for pace in {own_pace(hall), max(1, pace_with_shares(hall) - 1)}:
                other = with_pace(hall, pace)
                told = {name: own_straight_gain(other, name) for name, _, _ in hall[0] if name != hall[2]}
                self.assertEqual(frozen(same_after(self, straight_gains, other)), frozen(told))
                if any(gain > 0 for gain in told.values()):
                    if len(hall[0]) <= 5:
                        self.assertIs(holds(other), False)
                    signs[True] += 1
                else:
                    signs[False] += 1
        self.assertGreater(min(signs.values()), 20)

    def test_of_a_line_without_backs_exactly_so(self):
        dice = random.Random(144)
        kinds = {True: 0, False: 0}
        for at in range(160):
            machines, belts, filler = drawn_tree(dice, 2 + at % 4, True)
            machines = tuple((name, time, tuple((size, 0) for size, _ in purses)) for name, time, purses in machines)
            most = max(time for name, time, _ in machines if name != filler)
            for pace in (most, most + 1, most + 2):
                line = with_pace((machines, belts, filler), pace)
                straight = all(gain <= 0 for gain in straight_gains(line).values())
                self.assertIs(holds(line), straight)
                kinds[straight] += 1
        self.assertGreater(min(kinds.values()), 100)

    def test_where_a_time_is_above_the_pace(self):
        line = (((("cap", 5, ()),) + (("fill", 4, ()),)), (("cap", "fill", 9, 9),), "fill")
        self.assertEqual([straight_gains(line), holds(line)], [{"cap": 5 - 36}, False])


class JustSoTest(unittest.TestCase):
    def test_lines_that_are_and_are_not(self):
        bounds = {at: 0 for at in range(-1, 2)}
        for line, depth in EVEN:
            self.assertTrue(is_hall(line) and is_line(line))
            self.assertEqual(set(slacks(line).values()), {(0, 0)})
            self.assertIs(same_after(self, is_just_so, line), min(depth) >= 0)
            if min(depth) in bounds:
                bounds[min(depth)] += 1
        # A size at its bound, one above it, and one below it.
        self.assertGreater(min(bounds.values()), 3)
        self.assertGreater(len(JUST_SO), 60)
        self.assertGreater(len([line for line in JUST_SO if len(line[0]) > 3]), 5)
        self.assertGreater(len([line for line in JUST_SO if any(back for _, _, purses in line[0] for _, back in purses)]), 10)

    def test_what_is_asked_of_a_size(self):
        # Dip has no belt ahead; cap has one of 2, from one machine. Its size is (2 - 1) * 4 = 4 at the PACE 4.
        for rows, told in (([(4, 4, 0, 2), (4, 4, 0, 2)], True), ([(4, 4, 0, 2), (4, 8, 0, 3)], False), ([(3, 3, 0, 2), (3, 3, 0, 2)], False),
                           ([(5, 5, 0, 2), (5, 10, 0, 3)], True), ([(5, 5, 0, 2), (5, 15, 0, 4)], False)):
            line = chain_line(rows[0][0], rows)
            self.assertEqual([set(slacks(line).values()), is_just_so(line)], [{(0, 0)}, told])
        # With a back of 1, and nothing ahead, twice 1 is asked: 3 is enough, 1 is not.
        self.assertEqual([is_just_so(even_line(2, [(1, 2)])), is_just_so(even_line(2, [(1, 1)])), is_just_so(even_line(1, [(0, 2)]))], [True, False, True])

    def test_not_so_by_one_integer(self):
        checked = 0
        for line in JUST_SO:
            for name, time, purses in line[0]:
                if name == line[2]:
                    others = [with_time(line, name, time + 1)]
                else:
                    (size, back), = purses
                    belt = own_belts_home(line, name)[0]
                    room = line[1][belt][2]
                    others = [with_time(line, name, time + 1), with_purses(line, name, ((size + 1, back),)), with_purses(line, name, ((size, back + 1),)),
                              with_belt(line, belt, room + 1, room + 1), with_purses(line, name, purses + ((1, 0),)), with_purses(line, name, ()),
                              with_belt(line, belt, room, room - 1), with_belt(line, belt, room, 0)]
                    others += [with_time(line, name, time - 1)] if time > 1 else []
                    others += [with_purses(line, name, ((size - 1, back),))] if size > 1 else []
                    others += [with_purses(line, name, ((size, back - 1),))] if back else []
                    others += [with_belt(line, belt, room - 1, room - 1)] if room > 1 else []
                    # The same sums, in two PURSES.
                    others += [with_purses(line, name, ((size - 1, back), (1, 0)))] if size > 1 else []
                for other in others:
                    self.assertIs(is_just_so(other), False)
                    checked += 1
        self.assertGreater(checked, 500)

    def test_of_any_hall(self):
        for hall in some_halls(145, 80) + [HALL, DEAD, LONE] + TREES:
            if not is_line(hall):
                self.assertIs(same_after(self, is_just_so, hall), False)
        # Two machines with just their shares, side by side: a TREE, and no LINE.
        side = ((("cap", 4, ((4, 0),)), ("fill", 4, ()), ("wash", 4, ((4, 0),))), (("cap", "fill", 2, 2), ("wash", "fill", 2, 2)), "fill")
        self.assertEqual([set(slacks(side).values()), is_just_so(side)], [{(0, 0)}, False])


class SpoiledTest(unittest.TestCase):
    def own_spoiled(self, line):
        machines, belts, filler = line
        found = []
        for at, (name, time, purses) in enumerate(machines):
            if name != filler:
                (size, back), = purses
                index = own_belts_home(line, name)[0]
                start, end, room, _ = belts[index]
                if room > 1:
                    found.append((machines, belts[:index] + ((start, end, room - 1, room - 1),) + belts[index + 1:], filler))
                for other in ((name, time + 1, purses), (name, time, ((size + 1, back),)), (name, time, ((size, back + 1),))):
                    found.append((machines[:at] + (other,) + machines[at + 1:], belts, filler))
        return found

    def test_in_the_told_order(self):
        dice = random.Random(146)
        lengths = {}
        for line in [one_purse_line(dice, 1 + at % 7) for at in range(70)] + JUST_SO + WITH_ONE:
            found = same_after(self, spoiled, line)
            self.assertEqual(frozen(found), frozen(self.own_spoiled(line)))
            lengths[len(found) - 3 * (len(line[0]) - 1)] = True
        # None, some and all of the belts have more than one place.
        self.assertLessEqual({0, 1, 2, 3}, set(lengths))

    def test_new_each_time(self):
        check_new(self, spoiled, JUST_SO[0])

    def test_nothing_of_a_line_that_is_just_so_can_be_spared(self):
        checked = 0
        for line in JUST_SO:
            if max(size for _, _, purses in line[0] for size, _ in purses or ((0, 0),)) <= 30:
                self.assertIs(holds(line), True)
                for other in spoiled(line):
                    self.assertIs(holds(other), False)
                    checked += 1
        self.assertGreater(checked, 150)


if __name__ == "__main__":
    unittest.main()
