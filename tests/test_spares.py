"""[31]: what can be spared; [8]: what is promised of it."""

import random
import unittest

from fillerfed.errors import TooMany
from fillerfed.forms import is_hall
from fillerfed.halls import with_purses
from fillerfed.rings import dead_ring, is_live
from fillerfed.rooms import evidence, is_evidence, is_rooms, with_rooms
from fillerfed.spares import changed, changes_of, is_often_paper, is_spare_paper, is_tight, often, often_paper, spare_paper, spares
from fillerfed.tables import gains
from fillerfed.verdicts import holds
from samples import (CAP, DEAD, FILL, HALL, LONE, WASH, WIDE, any_values, check_new, frozen, least_pace, live_halls, own_gains, own_pace,
                     raised, same_after, some_halls, with_pace)

CAP, FILL, WASH = ("cap", 2, ((2, 0),)), ("fill", 4, ()), ("wash", 2, ((3, 0),))
LINE = ((CAP, FILL, WASH), (("wash", "cap", 1, 1), ("cap", "fill", 1, 1)), "fill")
GOOD = ((CAP, FILL, WASH), (("wash", "cap", 2, 2), ("cap", "fill", 1, 1)), "fill")
# One place less on the belt from fill to cap, and there is a DEAD RING.
RING = ((("cap", 1, ()), ("fill", 9, ()), ("wash", 1, ((1, 0),))), (("fill", "cap", 3, 2), ("cap", "fill", 2, 2), ("wash", "fill", 2, 2)), "fill")
EVEN = ((("cap", 4, ((4, 0),)), ("fill", 4, ())), (("cap", "fill", 2, 2),), "fill")
SMALL = [hall for hall, _ in live_halls(160, 80, 4)]
JUST = [with_pace(hall, least_pace(hall)) for hall in SMALL if least_pace(hall)]
HOLDING = JUST + [with_pace(hall, own_pace(hall) + 2) for hall in JUST[:20]] + [GOOD, EVEN, LONE]
HALLS = HOLDING + [hall for hall in some_halls(161, 40) if len(hall[0]) < 5] + [LINE, RING, DEAD, HALL]


def own_changes(hall):
    """All CHANGES that can be made, in the told order."""
    found = []
    for index, (_, _, room, first) in enumerate(hall[1]):
        if room > 1 and (room == first or room > first):
            found.append(("room", index))
    for name, _, purses in hall[0]:
        if name != hall[2]:
            found.append(("time", name))
            for index in range(len(purses)):
                found.append(("size", name, index))
                found.append(("back", name, index))
    return found


def own_changed(hall, change, times):
    machines, belts, filler = hall
    kind, where = change[:2]
    if kind == "room":
        start, end, room, first = belts[where]
        belt = (start, end, room - times, room - times if room == first else first)
        return (machines, belts[:where] + (belt,) + belts[where + 1:], filler)
    other = []
    for name, time, purses in machines:
        if name == where and kind == "time":
            time += times
        elif name == where:
            purses = list(purses)
            size, back = purses[change[2]]
            purses[change[2]] = (size + times, back) if kind == "size" else (size, back + times)
            purses = tuple(purses)
        other.append((name, time, purses))
    return (tuple(other), belts, filler)


def own_holds(hall):
    return is_live(hall) and own_gains(hall) is not None


def most_times(hall, change):
    """How often a CHANGE can be made, a great number if as often as one likes."""
    if change[0] != "room":
        return 10 ** 6
    _, _, room, first = hall[1][change[1]]
    return room - 1 if room == first else room - max(1, first)


def own_often(hall, change, most):
    """How often up to most, trying one after the other."""
    if not own_holds(hall):
        return None
    times = 0
    while times < min(most, most_times(hall, change)) and own_holds(own_changed(hall, change, times + 1)):
        times += 1
    return times


class ChangesTest(unittest.TestCase):
    def test_in_the_told_order(self):
        kinds = {}
        for hall in HALLS:
            found = same_after(self, changes_of, hall)
            self.assertEqual(frozen(found), frozen(own_changes(hall)))
            for change in found:
                kinds[change[0]] = kinds.get(change[0], 0) + 1
        self.assertGreater(min(kinds[kind] for kind in ("room", "time", "size", "back")), 40)
        check_new(self, changes_of, GOOD)

    def test_rooms_that_can_be_less(self):
        hall = ((("cap", 1, ()), FILL), tuple(("cap", "fill", room, first) for room,
                                              first in ((1, 1), (2, 2), (1, 0), (2, 0), (2, 1), (3, 2), (3, 3), (3, 0))), "fill")
        self.assertEqual(changes_of(hall), [("room", index) for index in (1, 3, 4, 5, 6, 7)] + [("time", "cap")])
        self.assertEqual([changes_of(LONE), changes_of(DEAD)], [[], [("room", 0), ("time", "cap"), ("size", "cap", 0), ("back", "cap", 0)]])

    def test_none_one_and_many_times(self):
        checked = 0
        for hall in HALLS:
            for change in changes_of(hall):
                most = most_times(hall, change)
                for times in [times for times in (0, 1, 2, 3, 90, most) if times <= most]:
                    other = same_after(self, changed, hall, change, times)
                    self.assertEqual(frozen(other), frozen(own_changed(hall, change, times)))
                    self.assertTrue(is_hall(other))
                    checked += 1
                    if change[0] == "room":
                        self.assertTrue(is_rooms(hall, tuple(belt[2] for belt in other[1])))
                        self.assertEqual(other, with_rooms(hall, tuple(belt[2] for belt in other[1])))
                self.assertEqual(changed(hall, change, 0), hall)
        self.assertGreater(checked, 800)

    def test_a_room_down_to_the_last_that_is_allowed(self):
        hall = ((("cap", 1, ()), FILL), (("cap", "fill", 4, 2), ("cap", "fill", 4, 4), ("fill", "cap", 4, 0)), "fill")
        # The first BELT comes to be FULL, and yet it is not less full with still less room.
        self.assertEqual([changed(hall, ("room", index), times)[1][index][2:] for index, times in ((0, 1), (0, 2), (1, 1), (1, 3), (2, 1), (2, 3))],
                         [(3, 2), (2, 2), (3, 3), (1, 1), (3, 0), (1, 0)])

    def test_each_harms_or_changes_nothing(self):
        dice = random.Random(162)
        for hall in HALLS:
            for change in changes_of(hall):
                if not own_holds(hall):
                    self.assertFalse(own_holds(changed(hall, change, dice.randint(1, min(3, most_times(hall, change))))))


class SparesTest(unittest.TestCase):
    def test_against_evidence_of_each(self):
        kinds = {True: 0, False: 0}
        for hall in HOLDING:
            told = [change for change in own_changes(hall) if own_holds(own_changed(hall, change, 1))]
            self.assertEqual(frozen(same_after(self, spares, hall)), frozen(told))
            self.assertIs(same_after(self, is_tight, hall), told == [])
            kinds[told == []] += 1
        self.assertGreater(min(kinds.values()), 3)
        self.assertEqual([is_tight(EVEN), is_tight(GOOD), is_tight(LONE), spares(LONE)], [True, False, True, []])
        check_new(self, spares, GOOD)

    def test_the_paper(self):
        kinds = {}
        for hall in HALLS:
            paper = same_after(self, spare_paper, hall)
            self.assertIs(type(paper), tuple)
            self.assertEqual([change for change, _ in paper], own_changes(hall))
            for change, told in paper:
                other = own_changed(hall, change, 1)
                self.assertIs(is_evidence(other, told), True)
                self.assertIs(told[0] == "holds", own_holds(other))
                self.assertEqual(frozen(told), frozen(evidence(other)))
                kinds[told[0]] = kinds.get(told[0], 0) + 1
            self.assertIs(same_after(self, is_spare_paper, hall, paper), True)
        self.assertGreater(min(kinds[kind] for kind in ("holds", "waits", "dead")), 10)

    def test_a_hall_that_comes_to_be_not_live(self):
        other = changed(RING, ("room", 0), 1)
        self.assertEqual([holds(RING), is_live(other), most_times(RING, ("room", 0))], [True, False, 1])
        self.assertNotIn(("room", 0), spares(RING))
        self.assertEqual(spare_paper(RING)[0], (("room", 0), ("dead", dead_ring(other))))
        self.assertEqual(often(RING, ("room", 0), 5), 0)
        self.assertEqual(often_paper(RING, ("room", 0), 5), (0, gains(RING), ("dead", dead_ring(other))))

    def test_one_part_otherwise(self):
        paper = spare_paper(GOOD)
        self.assertIs(is_spare_paper(GOOD, paper), True)
        for thing in (list(paper), paper[:-1], paper[1:], paper + paper[:1], paper[::-1], (), (paper,), paper[:1] + paper[2:3] + paper[1:2] + paper[3:]):
            self.assertIs(is_spare_paper(GOOD, thing), False)
        for at, (change, told) in enumerate(paper):
            others = [list((change, told)), (change,), (change, told, 0), (list(change), told), (change, list(told)), (change, (told[0],)), (change, None),
                      (change, ("holds", {})), (change, ("dead", ())), (change, told[1]), (change[:1], told), (change + (0,), told),
                      (change[0], told), (None, told),
                      ((), told), (("size", "fill", 0), told), (("Time",) + change[1:], told)]
            others += [(other, told) for other, _ in paper if other != change]
            # What is equal to a CHANGE, but a truth stands in it.
            others += [(change[:2] + (False,), told)] if len(change) == 3 else []
            others += [(("room", False), told)] if change == ("room", 0) else []
            for other in others:
                self.assertIs(is_spare_paper(GOOD, paper[:at] + (other,) + paper[at + 1:]), False)
        # EVIDENCE of some other HALL.
        swapped = tuple((change, paper[at - 1][1]) for at, (change, _) in enumerate(paper))
        self.assertIs(is_spare_paper(GOOD, swapped), False)

    def test_of_other_halls(self):
        papers = [spare_paper(hall) for hall in HALLS]
        for at, hall in enumerate(HALLS):
            for paper in papers[max(0, at - 3):at]:
                right = [change for change, _ in paper] == own_changes(hall) and all(is_evidence(own_changed(hall, change, 1), told) for change, told in paper)
                self.assertIs(is_spare_paper(hall, paper), right)

    def test_values_of_any_kind(self):
        paper = spare_paper(GOOD)
        for thing in any_values():
            self.assertIs(is_spare_paper(LONE, thing), type(thing) is tuple and thing == ())
            for hall in (GOOD, DEAD, WIDE):
                self.assertIs(is_spare_paper(hall, thing), False)
            for other in ((thing,) + paper[1:], ((thing, paper[0][1]),) + paper[1:], ((paper[0][0], thing),) + paper[1:], (thing,) * len(paper),
                          ((("room", thing), paper[0][1]),) + paper[1:] if type(thing) is not int or thing else None,
                          (((thing, 0), paper[0][1]),) + paper[1:]):
                self.assertIs(is_spare_paper(GOOD, other), False)

    def test_what_evidence_raises(self):
        for call in (spares, is_tight, spare_paper):
            self.assertEqual(raised(self, TooMany, call, WIDE).most, 20000)
        for call in (often, often_paper):
            for most in (0, 5):
                self.assertEqual(raised(self, TooMany, call, WIDE, ("size", "box", 0), most).most, 20000)
        # With a PURSE of one tick there are few STATES, and more and more with each change.
        few, near = [with_pace(with_purses(WIDE, "box", ((size, 1),)), 300) for size in (1, 67)]
        self.assertEqual([often(few, ("size", "box", 0), 2), often(near, ("size", "box", 0), 0)], [2, 0])
        self.assertEqual(raised(self, TooMany, often, near, ("size", "box", 0), 9).most, 20000)


class OftenTest(unittest.TestCase):
    def test_against_trying_one_after_the_other(self):
        found = {"none": 0, "most": 0, 0: 0, "between": 0, "last": 0}
        for hall in HALLS:
            for change in changes_of(hall):
                for most in (0, 1, 4):
                    told = own_often(hall, change, most)
                    self.assertEqual(frozen(often(hall, change, most)), frozen(told))
                    if told is None:
                        found["none"] += 1
                    elif told == most and most:
                        found["most"] += 1
                    elif told == most_times(hall, change):
                        found["last"] += 1
                    elif told == 0:
                        found[0] += most > 0
                    else:
                        found["between"] += 1
                    self.check_paper(hall, change, most, told)
        self.assertGreater(min(found.values()), 8, found)

    def check_paper(self, hall, change, most, told):
        paper = often_paper(hall, change, most)
        if told is None:
            self.assertIsNone(paper)
            self.assertIs(is_often_paper(hall, change, most, None), False)
            return
        times, table, shown = paper
        self.assertEqual(frozen(times), frozen(told))
        self.assertEqual(frozen(table), frozen(own_gains(own_changed(hall, change, told))))
        if told == most or told == most_times(hall, change):
            self.assertIsNone(shown)
        else:
            self.assertIn(shown[0], ("waits", "dead"))
            self.assertIs(is_evidence(own_changed(hall, change, told + 1), shown), True)
        self.assertIs(is_often_paper(hall, change, most, paper), True)

    def test_arguments_stay(self):
        for hall in HALLS[::6]:
            for change in changes_of(hall):
                same_after(self, often, hall, change, 3)
                paper = same_after(self, often_paper, hall, change, 3)
                if paper is not None:
                    same_after(self, is_often_paper, hall, change, 3, paper)
                    kept = frozen(paper)
                    paper[1].clear()
                    self.assertEqual(frozen(often_paper(hall, change, 3)), kept)

    def test_far(self):
        # For ever a piece of wash takes its time and its back: with more than the PACE it does not HOLD.
        self.assertEqual([often(GOOD, change, 40) for change in changes_of(GOOD)], [0, 0, 0, 40, 2, 3, 2])
        hall = ((("cap", 1, ((2, 0),)), ("fill", 60, ())), (("cap", "fill", 1, 1),), "fill")
        self.assertEqual([often(hall, change, 100) for change in changes_of(hall)], [57, 57, 100])
        self.assertEqual([often(hall, ("time", "cap"), most) for most in (56, 57, 58)], [56, 57, 57])
        self.assertEqual([often_paper(hall, ("time", "cap"), most)[2] is None for most in (56, 57, 58)], [True, True, False])

    def test_where_it_cannot_be_made_once_more(self):
        hall = ((("cap", 1, ()), ("fill", 9, ())), (("cap", "fill", 3, 3), ("cap", "fill", 4, 2)), "fill")
        for change in (("room", 0), ("room", 1)):
            for most, times in ((0, 0), (1, 1), (2, 2), (3, 2), (9, 2)):
                paper = often_paper(hall, change, most)
                self.assertEqual([paper[0], paper[2], often(hall, change, most)], [times, None, times])
                self.assertIs(is_often_paper(hall, change, most, paper), True)
                self.assertIs(is_often_paper(hall, change, most, paper[:2] + (evidence(hall),)), False)

    def test_of_halls_that_do_not_hold(self):
        for hall in [LINE, DEAD] + [hall for hall in HALLS if not own_holds(hall)]:
            for change in changes_of(hall):
                self.assertEqual([often(hall, change, 3), often_paper(hall, change, 3)], [None, None])
                for thing in (None, (0, {}, None), (0, None, None), (0, {}, ("waits", ("wash", (("down", 0), ("down", 1)))))):
                    self.assertIs(is_often_paper(hall, change, 3, thing), False)


class IsOftenPaperTest(unittest.TestCase):
    CHANGE = ("size", "wash", 0)

    def test_one_part_otherwise(self):
        paper = often_paper(GOOD, self.CHANGE, 9)
        times, table, shown = paper
        self.assertEqual([times, shown[0], is_often_paper(GOOD, self.CHANGE, 9, paper)], [3, "waits", True])
        less = often_paper(GOOD, self.CHANGE, 2)
        more = evidence(changed(GOOD, self.CHANGE, 5))
        self.assertEqual([less[0], less[2], more[0]], [2, None, "waits"])
        for thing in ([times, table, shown], paper[:2], paper + (None,), (times, table, None), (times, None, shown), (times, {}, shown),
                      (times, {state: gain - 1 for state, gain in table.items()}, shown), (times, ("holds", table), shown), (times, table, shown[1]),
                      (times, table, ("holds", table)), (times, table, ("dead", ())), (times, table, ("waits", ("fill", (("next", "fill"),)))), less,
                      (2, less[1], shown), (2, less[1], evidence(changed(GOOD, self.CHANGE, 3))), (4, table, more), (True, table, shown), (-1, table, shown),
                      (3.0, table, shown), (None, table, shown), (10, table, None), (9, table, None)):
            self.assertIs(is_often_paper(GOOD, self.CHANGE, 9, thing), False, thing)

    def test_at_most_and_below_it(self):
        paper = often_paper(GOOD, self.CHANGE, 9)
        times, table, shown = paper
        for most, told in ((3, (times, table, None)), (4, paper), (400, paper)):
            self.assertIs(is_often_paper(GOOD, self.CHANGE, most, told), True)
        # Once more is not asked at most, and is asked below it.
        for most, told in ((3, paper), (4, (times, table, None)), (2, paper), (2, (times, table, None)), (0, paper)):
            self.assertIs(is_often_paper(GOOD, self.CHANGE, most, told), False)
        self.assertIs(is_often_paper(GOOD, self.CHANGE, 0, (0, gains(GOOD), None)), True)
        self.assertIs(is_often_paper(GOOD, self.CHANGE, 0, (False, gains(GOOD), None)), False)
        self.assertIs(is_often_paper(GOOD, self.CHANGE, 1, (True, often_paper(GOOD, self.CHANGE, 1)[1], None)), False)
        self.assertIs(is_often_paper(GOOD, self.CHANGE, 1, often_paper(GOOD, self.CHANGE, 1)), True)

    def test_more_often_than_it_can_be_made(self):
        hall = with_rooms(GOOD, (3, 1))
        paper = often_paper(hall, ("room", 0), 9)
        self.assertEqual([paper[0], paper[2][0]], [1, "waits"])
        self.assertIs(is_often_paper(hall, ("room", 0), 9, paper), True)
        wide = ((("cap", 1, ()), ("fill", 9, ())), (("cap", "fill", 3, 3),), "fill")
        paper = often_paper(wide, ("room", 0), 9)
        self.assertEqual([paper[0], paper[2]], [2, None])
        for thing in ((2, paper[1], None), (3, paper[1], None), (4, paper[1], None), (2, paper[1], evidence(wide)), (1, paper[1], None)):
            self.assertIs(is_often_paper(wide, ("room", 0), 9, thing), thing == paper)

    def test_of_other_halls_and_other_changes(self):
        checked = 0
        for at, hall in enumerate(HOLDING):
            papers = [(change, often_paper(hall, change, 4)) for change in changes_of(hall)]
            for change, paper in papers:
                for other, _ in papers + [(other, None) for other in changes_of(HOLDING[at - 1])]:
                    for judged in (hall, HOLDING[at - 1]):
                        if other in own_changes(judged):
                            right = self.own_is_paper(judged, other, 4, paper)
                            self.assertIs(is_often_paper(judged, other, 4, paper), right)
                            checked += not right
        self.assertGreater(checked, 100)

    def own_is_paper(self, hall, change, most, paper):
        times, table, shown = paper
        last = min(most, most_times(hall, change))
        if times > last or not is_evidence(own_changed(hall, change, times), ("holds", table)):
            return False
        if times == last:
            return shown is None
        return shown is not None and shown[0] != "holds" and is_evidence(own_changed(hall, change, times + 1), shown)

    def test_values_of_any_kind(self):
        times, table, shown = often_paper(GOOD, self.CHANGE, 9)
        for thing in any_values():
            for hall in (GOOD, LINE, WIDE):
                for other in (thing, (thing, table, shown), (times, thing, shown), (times, table, thing), (thing, thing, thing),
                              (times, table, ("waits", thing)),
                              (times, table, (thing, shown[1]))):
                    self.assertIs(is_often_paper(hall, self.CHANGE if hall != WIDE else ("size", "box", 0), 9, other), False)


if __name__ == "__main__":
    unittest.main()
