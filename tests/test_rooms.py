"""[30]: which rooms are least, and what shows it; [8]: what is promised of them."""

import itertools
import random
import unittest

from fillerfed.errors import Dead, TooMany
from fillerfed.forms import is_hall
from fillerfed.rings import dead_ring, is_dead_ring, is_live
from fillerfed.rooms import cheapest_rooms, evidence, is_evidence, is_least_rooms, is_rooms, least_rooms, with_rooms
from fillerfed.tables import gains, is_table
from fillerfed.verdicts import is_verdict, verdict
from fillerfed.walks import is_walk
from fillerfed.walkstops import pays
from samples import (CAP, DEAD, FILL, HALL, LONE, NEVER_RIGHT, WASH, WIDE, any_values, frozen, live_halls, own_gains, raised, same_after,
                     some_hall, some_halls, with_pace)

CAP, FILL, WASH = ("cap", 2, ((2, 0),)), ("fill", 4, ()), ("wash", 2, ((3, 0),))
LINE = ((CAP, FILL, WASH), (("wash", "cap", 1, 1), ("cap", "fill", 1, 1)), "fill")
GOOD = ((CAP, FILL, WASH), (("wash", "cap", 2, 2), ("cap", "fill", 1, 1)), "fill")
# A belt that is full, one that is empty, one between: with rooms of 1 there is a DEAD RING.
MIXED = ((CAP, FILL, WASH), (("wash", "fill", 2, 2), ("fill", "cap", 2, 0), ("cap", "wash", 3, 2)), "fill")
HALLS = [hall for hall in some_halls(150, 80) if len(hall[0]) < 5] + [LINE, GOOD, MIXED, LONE, DEAD, HALL]


def least_of(hall):
    """For each BELT the least room that it can have."""
    return [1 if room == first else max(1, first) for _, _, room, first in hall[1]]


def own_rows(hall, most):
    """All ROOMS UP TO most, ascending."""
    return list(itertools.product(*[range(least, most + 1) for least in least_of(hall)]))


def own_with(hall, rooms):
    belts = tuple((start, end, room, room if old == first else first) for (start, end, old, first), room in zip(hall[1], rooms))
    return (hall[0], belts, hall[2])


def above(one, other):
    return all(a >= b for a, b in zip(one, other))


def own_least(hall, most):
    """The tuple (least, lost) of rows alone, by going through all ROOMS."""
    rows = own_rows(hall, most)
    good = [row for row in rows if is_live(own_with(hall, row)) and own_gains(own_with(hall, row)) is not None]
    bad = [row for row in rows if row not in good]
    least = [row for row in good if not any(above(row, other) and row != other for other in good)]
    lost = [row for row in bad if not any(above(other, row) and row != other for other in bad)]
    return least, lost


def webs(seed, rounds, most_belts=4):
    """Tuples (hall, most, least_rooms) of small HALLS, LIVE or not; of those that hold always or never only some."""
    dice = random.Random(seed)
    found = []
    others = 0
    for at in range(rounds):
        hall = with_pace(some_hall(dice, 1 + at % 4, 2, 3), dice.randint(2, 12))
        if len(hall[1]) <= most_belts:
            firsts = [first for _, _, room, first in hall[1] if first != room]
            most = max(firsts + [dice.choice((1, 2, 3, 3, 4)) if len(hall[1]) < 3 else 3])
            told = least_rooms(hall, most)
            others += not (told[0] and told[1])
            if others < 40 or (told[0] and told[1]):
                found.append((hall, most, told))
    return found


TOLD = webs(151, 320) + [(hall, most, least_rooms(hall, most)) for hall, most in ((LINE, 3), (MIXED, 3), (LONE, 1), (LONE, 9), (DEAD, 3))]


class RoomsTest(unittest.TestCase):
    def test_of_each_belt(self):
        for rooms, told in (((2, 2, 2), True), ((1, 1, 2), True), ((9, 9, 9), True), ((10 ** 30, 1, 2), True), ((0, 1, 2), False), ((1, 0, 2), False),
                            ((1, 1, 1), False), ((1, 1, 0), False), ((1, 1), False), ((1, 1, 2, 1), False), ((), False), ((-1, 1, 2), False)):
            self.assertIs(same_after(self, is_rooms, MIXED, rooms), told)
            self.assertIs(is_rooms(MIXED, list(rooms)), False)
            for at in range(len(rooms)):
                for thing in NEVER_RIGHT:
                    self.assertIs(is_rooms(MIXED, rooms[:at] + (thing,) + rooms[at + 1:]), False)
        self.assertEqual([is_rooms(LONE, ()), is_rooms(LONE, (1,)), is_rooms(LONE, []), is_rooms(LINE, ())], [True, False, False, False])

    def test_any_value(self):
        for thing in any_values():
            self.assertIs(is_rooms(MIXED, thing), type(thing) is tuple and thing == (1, 2, 3))
            self.assertIs(is_rooms(LONE, thing), type(thing) is tuple and thing == ())
            self.assertIs(is_rooms(LINE, (thing, 1)), type(thing) is int and thing > 0)

    def test_drawn(self):
        dice = random.Random(152)
        kinds = {True: 0, False: 0}
        for hall in HALLS:
            for _ in range(6):
                rooms = tuple(dice.randint(0, 4) for _ in hall[1])
                told = all(room >= least for room, least in zip(rooms, least_of(hall)))
                self.assertIs(is_rooms(hall, rooms), told)
                kinds[told] += 1
                if told:
                    other = same_after(self, with_rooms, hall, rooms)
                    self.assertEqual(frozen(other), frozen(own_with(hall, rooms)))
                    self.assertTrue(is_hall(other))
        self.assertGreater(min(kinds.values()), 60)

    def test_full_belts_stay_full_and_others_keep_what_they_have(self):
        self.assertEqual(with_rooms(MIXED, (5, 4, 2))[1], (("wash", "fill", 5, 5), ("fill", "cap", 4, 0), ("cap", "wash", 2, 2)))
        self.assertEqual(with_rooms(MIXED, (1, 1, 3))[1], (("wash", "fill", 1, 1), ("fill", "cap", 1, 0), ("cap", "wash", 3, 2)))
        self.assertEqual([with_rooms(MIXED, (2, 2, 3)), with_rooms(LONE, ())], [MIXED, LONE])


class EvidenceTest(unittest.TestCase):
    def test_of_all_three_kinds(self):
        kinds = {}
        for hall in HALLS + [hall for hall, _ in live_halls(153, 60, 4)]:
            kind, told = shown = same_after(self, evidence, hall)
            kinds[kind] = kinds.get(kind, 0) + 1
            if kind == "dead":
                self.assertEqual(told, dead_ring(hall))
            else:
                self.assertEqual(frozen(shown), frozen(verdict(hall)))
            self.assertIs(same_after(self, is_evidence, hall, shown), True)
        self.assertEqual(sorted(kinds), ["dead", "holds", "waits"])
        self.assertGreater(min(kinds.values()), 10)

    def test_of_other_halls(self):
        told = [evidence(hall) for hall in HALLS]
        for at, hall in enumerate(HALLS):
            for kind, thing in told[max(0, at - 4):at + 1]:
                right = {"dead": lambda: is_dead_ring(hall, thing), "holds": lambda: is_live(hall) and is_table(hall, thing),
                         "waits": lambda: is_live(hall) and is_walk(hall, thing) and pays(hall, thing)}[kind]()
                self.assertIs(is_evidence(hall, (kind, thing)), right)
                for other in ("dead", "holds", "waits"):
                    if other != kind:
                        self.assertIs(is_evidence(hall, (other, thing)), False)

    def test_only_of_a_hall_that_is_live_or_is_not(self):
        # By the words of a TABLE this one is one; the HALL is not LIVE.
        ring = ((("a", 1, ()), ("b", 1, ()), ("fill", 9, ())), (("a", "b", 1, 1), ("b", "a", 1, 1), ("a", "fill", 1, 1)), "fill")
        table = {(name, ((), (), ())): 0 for name in ("a", "b", "fill")}
        self.assertEqual([is_table(ring, table), is_evidence(ring, ("holds", table)), is_evidence(ring, evidence(ring))], [True, False, True])
        self.assertIs(is_evidence(LINE, ("dead", (("down", 0),))), False)

    def test_one_part_otherwise(self):
        ring = dead_ring(DEAD)
        table = gains(GOOD)
        walk = ("wash", (("down", 0), ("down", 1)))
        self.assertEqual([is_evidence(DEAD, ("dead", ring)), is_evidence(GOOD, ("holds", table)), is_evidence(LINE, ("waits", walk))], [True] * 3)
        for hall, things in ((DEAD, (["dead", ring], ("dead",), ("dead", ring, 0), ("Dead", ring), ("dead", ring[:1]), ("dead", list(ring)), ("dead", ()),
                                     ("dead", None), ("dead", (ring,)), (b"dead", ring), ring, ("waits", ring), ("dead", ring + ring[:1]), {"dead": ring})),
                             (GOOD, (["holds", table], ("holds", {}), ("holds", None), ("dead", table), ("waits", walk), table,
                                     ("holds", {**table, next(iter(table)): -9}), ("dead", ()))),
                             (LINE, (["waits", walk], ("waits", ("wash", walk[1][:1])), ("waits", ("cap", walk[1][1:])), ("waits", None), walk,
                                     ("dead", walk)))):
            for thing in things:
                self.assertIs(is_evidence(hall, thing), False, thing)

    def test_any_value(self):
        for hall in (LINE, GOOD, LONE, DEAD, MIXED):
            for thing in any_values():
                for other in (thing, (thing, None), ("dead", thing), ("holds", thing), ("waits", thing), (thing, dead_ring(DEAD)), [thing, thing]):
                    self.assertIs(is_evidence(hall, other), False)

    def test_too_many(self):
        self.assertEqual(raised(self, TooMany, evidence, WIDE).most, 20000)
        self.assertEqual(raised(self, TooMany, verdict, WIDE).most, 20000)


class LeastRoomsTest(unittest.TestCase):
    def test_against_going_through_all(self):
        found = {"least": {}, "lost": {}, "dead": 0, "belts": {}}
        for hall, most, (least, lost) in TOLD:
            good, bad = own_least(hall, most)
            self.assertEqual([rooms for rooms, _ in least], good)
            self.assertEqual([rooms for rooms, _ in lost], bad)
            for rooms, table in least:
                self.assertIs(is_table(own_with(hall, rooms), table), True)
            for rooms, shown in lost:
                other = own_with(hall, rooms)
                self.assertIs(is_dead_ring(other, shown[1]) if shown[0] == "dead" else shown[0] == "waits" and is_verdict(other, shown), True)
                found["dead"] += shown[0] == "dead"
            found["least"][min(2, len(least))] = True
            found["lost"][min(2, len(lost))] = True
            for _, _, room, first in hall[1]:
                found["belts"][0 if first == 0 else 2 if first == room else 1] = True
        # None, one and several of both, with belts of all kinds, and DEAD RINGS among them.
        self.assertEqual([sorted(found["least"]), sorted(found["lost"]), sorted(found["belts"])], [[0, 1, 2]] * 3)
        self.assertGreater(found["dead"], 5)

    def test_arguments_stay_and_answers_are_new(self):
        for hall, most, _ in TOLD[:20] + TOLD[-5:]:
            same_after(self, least_rooms, hall, most)
            least, lost = least_rooms(hall, most)
            tables = [table for _, table in least] + [shown[1] for _, shown in lost if shown[0] == "holds"]
            self.assertEqual(len({id(table) for table in tables}), len(tables))
            for table in tables:
                table.clear()
            self.assertIs(is_least_rooms(hall, most, least_rooms(hall, most)), True)

    def test_rooms_that_are_above_most_at_first(self):
        wide = with_rooms(LINE, (20, 20))
        self.assertEqual([rooms for rooms, _ in least_rooms(wide, 3)[0]], [(1, 2), (2, 1)])
        self.assertEqual(frozen(least_rooms(wide, 3)), frozen(least_rooms(LINE, 3)))

    def test_without_belts(self):
        table = {("fill", ((),)): 0}
        self.assertEqual(least_rooms(LONE, 1), ((((), table),), ()))

    def test_what_holds_with_some_holds_with_all_that_are_at_least_these(self):
        dice = random.Random(154)
        for hall, most, (least, lost) in TOLD:
            for rooms, _ in least:
                more = tuple(room + dice.randint(0, 3) for room in rooms)
                self.assertEqual(evidence(own_with(hall, more))[0], "holds")
            for rooms, _ in lost:
                less = tuple(max(low, room - dice.randint(0, 2)) for room, low in zip(rooms, least_of(hall)))
                self.assertNotEqual(evidence(own_with(hall, less))[0], "holds")

    def test_too_many_at_both_sides_of_the_bound(self):
        small = ((("cap", 1, ()), ("fill", 3, ())), (("cap", "fill", 1, 1),), "fill")
        two = ((("cap", 1, ()), ("fill", 3, ())), (("cap", "fill", 1, 1), ("cap", "fill", 2, 0)), "fill")
        three = ((("cap", 1, ()), ("fill", 3, ())), (("cap", "fill", 1, 1), ("cap", "fill", 3, 2), ("fill", "cap", 5, 0)), "fill")
        for hall, most, rows in ((small, 400, 400), (small, 401, 401), (two, 20, 400), (two, 21, 441), (three, 7, 7 * 6 * 7), (three, 8, 8 * 7 * 8)):
            self.assertEqual(len(own_rows(hall, most)), rows)
            if rows <= 400:
                found = least_rooms(hall, most)
                self.assertIs(is_least_rooms(hall, most, found), True)
                self.assertIs(is_least_rooms(hall, most, None), False)
                self.assertEqual(cheapest_rooms(hall, most, (0,) * len(hall[1])), (0, found[0][0][0]) if found[0] else None)
            else:
                self.assertEqual(raised(self, TooMany, least_rooms, hall, most).most, 400)
                self.assertEqual(raised(self, TooMany, cheapest_rooms, hall, most, (1,) * len(hall[1])).most, 400)
                for thing in (None, ((), ()), least_rooms(hall, 3)):
                    self.assertEqual(raised(self, TooMany, is_least_rooms, hall, most, thing).most, 400)
        crowd = (MIXED[0], (("wash", "fill", 1, 1),) * 11 + (("cap", "fill", 1, 1),), "fill")
        for call, given in ((least_rooms, ()), (is_least_rooms, (None,)), (cheapest_rooms, ((1,) * 12,))):
            self.assertEqual(raised(self, TooMany, call, crowd, 2, *given).most, 400)
        self.assertEqual(len(least_rooms(crowd, 1)[0]) + len(least_rooms(crowd, 1)[1]), 1)

    def test_what_evidence_raises(self):
        for most in (1, 2):
            self.assertEqual(raised(self, TooMany, least_rooms, WIDE, most).most, 20000)
            self.assertEqual(raised(self, TooMany, cheapest_rooms, WIDE, most, (1, 1, 1)).most, 20000)
        # More ROOMS than 400 come first.
        self.assertEqual(raised(self, TooMany, least_rooms, WIDE, 8).most, 400)
        # The judge seeks nothing: it raises nothing here.
        self.assertIs(is_least_rooms(WIDE, 1, ((), ())), False)
        self.assertIs(is_least_rooms(WIDE, 1, ((), (((1, 1, 1), ("waits", ("cap", (("down", 2),)))),))), True)


class IsLeastRoomsTest(unittest.TestCase):
    def test_of_told_ones(self):
        for hall, most, told in TOLD:
            self.assertIs(same_after(self, is_least_rooms, hall, most, told), True)

    def test_a_couple_less_or_more_or_out_of_order(self):
        dice = random.Random(155)
        checked = 0
        for hall, most, (least, lost) in TOLD:
            for at in range(len(least)):
                self.assertIs(is_least_rooms(hall, most, (least[:at] + least[at + 1:], lost)), False)
                self.assertIs(is_least_rooms(hall, most, (least[:at + 1] + least[at:], lost)), False)
            for at in range(len(lost)):
                self.assertIs(is_least_rooms(hall, most, (least, lost[:at] + lost[at + 1:])), False)
                self.assertIs(is_least_rooms(hall, most, (least, lost[:at + 1] + lost[at:])), False)
            if len(least) > 1:
                self.assertIs(is_least_rooms(hall, most, (least[::-1], lost)), False)
                checked += 1
            if len(lost) > 1:
                self.assertIs(is_least_rooms(hall, most, (least, lost[::-1])), False)
                checked += 1
            rows = own_rows(hall, most)
            for row in dice.sample(rows, min(4, len(rows))):
                shown = evidence(own_with(hall, row))
                if shown[0] == "holds" and row not in [rooms for rooms, _ in least]:
                    more = tuple(sorted(least + ((row, shown[1]),), key=lambda couple: couple[0]))
                    self.assertIs(is_least_rooms(hall, most, (more, lost)), False)
                    checked += 1
                if shown[0] != "holds" and row not in [rooms for rooms, _ in lost]:
                    more = tuple(sorted(lost + ((row, shown),), key=lambda couple: couple[0]))
                    self.assertIs(is_least_rooms(hall, most, (least, more)), False)
                    checked += 1
        self.assertGreater(checked, 60)

    def test_another_table_or_evidence(self):
        checked = 0
        for hall, most, (least, lost) in TOLD:
            for at, (rooms, table) in enumerate(least):
                for other in ({}, None, {state: gain - 1 for state, gain in table.items()}, ("holds", table), list(table.items())):
                    self.assertIs(is_least_rooms(hall, most, (least[:at] + ((rooms, other),) + least[at + 1:], lost)), False)
                more = {state: gain for state, gain in table.items()}
                self.assertIs(is_least_rooms(hall, most, (least[:at] + ((rooms, more),) + least[at + 1:], lost)), True)
                for row, shown in lost:
                    # What shows that others do not HOLD stands where a TABLE has to.
                    self.assertIs(is_least_rooms(hall, most, (least[:at] + ((rooms, shown),) + least[at + 1:], lost)), False)
                    self.assertIs(is_least_rooms(hall, most, (tuple(sorted(least + ((row, shown[1]),), key=lambda couple: couple[0])), ())), False)
                    checked += 1
            for at, (rooms, shown) in enumerate(lost):
                for other in (None, (), ("waits", None), ("dead", ()), ("holds", {}), shown[1], ("waits", ("fill", (("next", "fill"),)))):
                    self.assertIs(is_least_rooms(hall, most, (least, lost[:at] + ((rooms, other),) + lost[at + 1:])), False)
        self.assertGreater(checked, 30)

    def test_what_holds_is_not_lost(self):
        # Each row of ROOMS is told of, and all that is shown is right: but one of lost HOLDS.
        least, lost = least_rooms(GOOD, 2)
        self.assertEqual([[rooms for rooms, _ in least], [rooms for rooms, _ in lost]], [[(1, 2), (2, 1)], [(1, 1)]])
        wrong = ((2, 2), ("holds", gains(with_rooms(GOOD, (2, 2)))))
        self.assertIs(is_least_rooms(GOOD, 2, (least, lost)), True)
        self.assertIs(is_least_rooms(GOOD, 2, (least, (wrong,))), False)
        self.assertIs(is_least_rooms(GOOD, 2, ((), (wrong,))), False)

    def test_another_most(self):
        changed = 0
        for hall, most, told in TOLD:
            for other in (most - 1, most + 1):
                if other >= max([1] + [first for _, _, room, first in hall[1] if first != room]) and len(own_rows(hall, other)) <= 400:
                    same = [[rooms for rooms, _ in part] for part in told] == list(own_least(hall, other))
                    self.assertIs(is_least_rooms(hall, other, told), same)
                    changed += not same
        self.assertGreater(changed, 30)

    def test_values_of_any_kind(self):
        least, lost = least_rooms(LINE, 3)
        self.assertIs(is_least_rooms(LINE, 3, (least, lost)), True)
        for thing in any_values():
            for other in (thing, (thing, lost), (least, thing), (thing, thing), (least + (thing,), lost), (least, (thing,)), ((thing,), lost),
                          (((thing, {}),), lost), (((least[0][0], thing),) + least[1:], lost), (least, ((lost[0][0], thing),)), (least, ((thing, lost[0][1]),)),
                          (((1, thing), least[0][1]), lost)):
                self.assertIs(is_least_rooms(LINE, 3, other), False)
        for other in ([least, lost], (list(least), lost), (least, list(lost)), (least, lost, ()), (least,), (lost, least),
                      ((list(least[0]),) + least[1:], lost), (((list(least[0][0]), least[0][1]),) + least[1:], lost),
                      ((((True, 2), least[0][1]),) + least[1:], lost), (least, (((1, True), lost[0][1]),)), (least, (((1, 1, 1), lost[0][1]),)),
                      (least, (((0, 1), lost[0][1]),))):
            self.assertIs(is_least_rooms(LINE, 3, other), False)


class CheapestTest(unittest.TestCase):
    def test_against_all_rooms(self):
        dice = random.Random(156)
        none = 0
        for hall, most, (least, _) in TOLD:
            for prices in [(0,) * len(hall[1]), (1,) * len(hall[1]), (7,) * len(hall[1])] + [tuple(dice.randint(0, 9) for _ in hall[1]) for _ in range(2)]:
                if len(own_rows(hall, most)) > 60 and prices and prices[0] == 7:
                    continue
                found = same_after(self, cheapest_rooms, hall, most, prices) if len(hall[1]) < 3 else cheapest_rooms(hall, most, prices)
                if not least:
                    self.assertIsNone(found)
                    none += 1
                    continue
                good = [row for row in own_rows(hall, most) if any(above(row, rooms) for rooms, _ in least)]
                price = min(sum(a * b for a, b in zip(row, prices)) for row in good)
                first = [rooms for rooms, _ in least if sum(a * b for a, b in zip(rooms, prices)) == price][0]
                self.assertEqual(frozen(found), frozen((price, first)))
        self.assertGreater(none, 10)

    def test_the_first_of_equal_ones(self):
        self.assertEqual([cheapest_rooms(LINE, 3, prices) for prices in ((5, 1), (1, 5), (1, 1), (0, 0), (0, 3), (3, 0))],
                         [(7, (1, 2)), (7, (2, 1)), (3, (1, 2)), (0, (1, 2)), (3, (2, 1)), (3, (1, 2))])
        self.assertEqual([cheapest_rooms(LINE, 1, (1, 1)), cheapest_rooms(LONE, 1, ())], [None, (0, ())])


class DeadTest(unittest.TestCase):
    def test_no_dead_is_raised(self):
        for hall in [hall for hall in some_halls(157, 60) if not is_live(hall) and len(hall[1]) < 4] + [DEAD]:
            self.assertRaises(Dead, verdict, hall)
            self.assertEqual(evidence(hall), ("dead", dead_ring(hall)))
            most = max([1] + [first for _, _, room, first in hall[1] if first != room])
            self.assertEqual(frozen(is_least_rooms(hall, most, least_rooms(hall, most))), frozen(True))


if __name__ == "__main__":
    unittest.main()
