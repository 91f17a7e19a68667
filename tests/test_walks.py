"""[22]: ways and walks."""

import itertools
import random
import unittest

from fillerfed.errors import TooMany
from fillerfed.rings import is_live
from fillerfed.walks import all_walks, end_of_way, ended, index_of, indexes, is_walk, is_way, way_to_filler
from samples import (DEAD, HALL, LONE, NEVER_RIGHT, any_values, check_new, drawn_walks, drawn_way, exchanged, leads, raised, same_after,
                     some_halls)

LINE = ((("cap", 2, ((2, 0),)), ("fill", 4, ()), ("wash", 2, ((3, 0),))), (("wash", "cap", 1, 1), ("cap", "fill", 1, 1)), "fill")
TWINS = ((("a", 1, ()), ("b", 2, ((1, 0),)), ("fill", 3, ())), (("a", "b", 2, 1), ("b", "a", 3, 1), ("fill", "b", 2, 1), ("b", "fill", 1, 1)), "fill")
HALLS = [HALL, LONE, DEAD, LINE, TWINS] + some_halls(60, 48)


def own_ways(hall, begin, many):
    """All tuples of at most so many ARCS that lead on from a machine, each with the names of the places behind its ARCS."""
    found = [((), ())]
    rows = [((), (), begin)]
    for _ in range(many):
        rows = [(arcs + (arc,), places + (end,), end) for arcs, places, here in rows for arc, start, end, _ in leads(hall) if start == here]
        found.extend((arcs, places) for arcs, places, _ in rows)
    return found


def own_walks(hall, many):
    """All WALKS with at most so many ARCS, in any order."""
    found = []
    for begin, _, _ in hall[0]:
        for arcs, places in own_ways(hall, begin, many):
            if arcs and places[-1] == hall[2] and hall[2] not in places[:-1]:
                found.append((begin, arcs))
    return found


class FormsTest(unittest.TestCase):
    def check_both(self, hall, thing, way, walk):
        self.assertIs(same_after(self, is_way, hall, thing), way, thing)
        self.assertIs(same_after(self, is_walk, hall, thing), walk, thing)

    def test_all_tuples_of_arcs(self):
        for hall in (LINE, DEAD, TWINS, HALL, LONE):
            arcs = [row[0] for row in leads(hall)]
            walks = {walk: True for walk in own_walks(hall, 3)}
            for begin in [name for name, _, _ in hall[0]] + ["nobody"]:
                ways = {way: True for way, _ in own_ways(hall, begin, 3)}
                for many in range(4):
                    for row in itertools.product(arcs, repeat=many):
                        self.assertIs(is_way(hall, (begin, row)), row in ways and begin != "nobody")
                        self.assertIs(is_walk(hall, (begin, row)), (begin, row) in walks)

    def test_one_part_otherwise(self):
        for walk in (("wash", (("down", 0), ("next", "cap"), ("down", 1))), ("fill", (("up", 1), ("up", 0), ("down", 0), ("down", 1)))):
            self.check_both(LINE, walk, True, True)
            for thing in exchanged(walk):
                # What is left of a WAY where only its end was exchanged can still be one.
                self.check_both(LINE, thing, False, False)
            for at in range(len(walk[1])):
                self.check_both(LINE, (walk[0], walk[1][:at] + (("next", "fill"),) + walk[1][at + 1:]), False, False)

    def test_wrong_parts(self):
        for thing in (["wash", (("down", 0),)], ("wash", [("down", 0)]), ("wash", (["down", 0],)), ("wash", (("down", False),)), ("wash", (("down", -2),)),
                      ("cap", (("down", True),)), ("cap", (("down", 1), ("next", "cap"))), ("cap", (("next", "wash"),)), ("nobody", ()), ("wash", ()) * 2,
                      ("cap", (("down", 2),)), ("cap", (("up", 1),)), ("wash", (("up", 0),)), ("cap", (("down", "1"),)), ("cap", ("next",)), ("cap",),
                      ("cap", None), ("cap", (("down", 1, 1),)), ("cap", "down"), ("cap", {("down", 1): 1}), ("Cap", ()), (b"cap", ()), (("cap",), ()),
                      ("cap", (("DOWN", 1),)), ("cap", (("down", 1.0),)), ("cap", ((1, "down"),)), ("cap", (("next", 1),)), ("cap", (("down", "cap"),))):
            self.check_both(LINE, thing, False, False)

    def test_walks_and_other_ways(self):
        self.check_both(LINE, ("fill", ()), True, False)
        self.check_both(LINE, ("cap", ()), True, False)
        self.check_both(LINE, ("wash", (("down", 0),)), True, False)
        self.check_both(LINE, ("cap", (("down", 1), ("next", "fill"))), True, False)
        self.check_both(LINE, ("cap", (("down", 1), ("up", 1), ("down", 1))), True, False)
        self.check_both(LINE, ("fill", (("next", "fill"), ("next", "fill"))), True, False)
        self.check_both(LINE, ("fill", (("next", "fill"),)), True, True)
        self.check_both(LINE, ("fill", (("up", 1), ("down", 1))), True, True)
        self.check_both(LINE, ("cap", (("next", "cap"),) * 3000 + (("down", 1),)), True, True)

    def test_drawn_ones_of_halls_that_are_live_or_not(self):
        dice = random.Random(61)
        kinds = {True: 0, False: 0}
        for hall in HALLS:
            kinds[is_live(hall)] += 1
            for walk in drawn_walks(dice, hall, 6):
                self.check_both(hall, walk, True, True)
                self.check_both(hall, (walk[0], walk[1] + (("next", hall[2]),)), True, False)
                at = dice.randrange(len(walk[1]))
                self.check_both(hall, walk[:1] + (walk[1][:at] + (dice.choice(NEVER_RIGHT),) + walk[1][at + 1:],), False, False)
        self.assertGreater(min(kinds.values()), 5)

    def test_any_value(self):
        for hall in (LINE, LONE, DEAD):
            for thing in any_values():
                self.assertIs(is_way(hall, thing), False)
                self.assertIs(is_walk(hall, thing), False)
            for part in any_values():
                ways = [repr(arcs) for arcs, _ in own_ways(hall, "fill", 1)]
                self.assertIs(is_way(hall, ("fill", part)), repr(part) in ways)
                self.assertIs(is_walk(hall, ("fill", part)), False)
                self.assertIs(is_way(hall, (part, ())), type(part) is str and part in [name for name, _, _ in hall[0]])
                on = [repr(row[0]) for row in leads(hall) if row[1] == "fill"]
                self.assertIs(is_way(hall, ("fill", (("next", "fill"), part))), repr(part) in on)
                self.assertIs(is_way(hall, ("fill", (("next", part),))), part == "fill" and type(part) is str)


class AlongTest(unittest.TestCase):
    def test_places_indexes_and_pieces(self):
        dice = random.Random(62)
        for hall in HALLS:
            rows = {arc: (start, end, growth) for arc, start, end, growth in leads(hall)}
            for many in (0, 1, 2, 9, 30):
                way = drawn_way(dice, hall, many)
                index, found, pieces = 0, [0], []
                for arc in way[1]:
                    if arc[0] != "up":
                        pieces.append((rows[arc][0], index))
                    index += rows[arc][2]
                    found.append(index)
                self.assertEqual(same_after(self, indexes, hall, way), tuple(found))
                self.assertEqual(same_after(self, index_of, hall, way), index)
                self.assertEqual(same_after(self, ended, hall, way), tuple(pieces))
                self.assertEqual(same_after(self, end_of_way, hall, way), rows[way[1][-1]][1] if many else way[0])
                self.assertEqual([type(told) for told in (indexes(hall, way), ended(hall, way))], [tuple, tuple])

    def test_edges(self):
        self.assertEqual([indexes(LINE, ("cap", ())), index_of(LINE, ("cap", ())), ended(LINE, ("cap", ())), end_of_way(LINE, ("cap", ()))],
                         [(0,), 0, (), "cap"])
        ups = ("fill", (("up", 1), ("up", 0)))
        self.assertEqual([indexes(LINE, ups), ended(LINE, ups), end_of_way(LINE, ups)], [(0, 0, 0), (), "wash"])
        self.assertEqual(ended(LINE, ("cap", (("next", "cap"),) * 3)), (("cap", 0), ("cap", 1), ("cap", 2)))
        long = ("cap", (("next", "cap"),) * 3000)
        self.assertEqual([index_of(LINE, long), len(indexes(LINE, long)), ended(LINE, long)[-1]], [3000, 3001, ("cap", 2999)])

    def test_in_a_live_hall_no_piece_is_ended_twice(self):
        dice = random.Random(63)
        for hall in [hall for hall in HALLS if is_live(hall)]:
            pieces = ended(hall, drawn_way(dice, hall, 200))
            self.assertEqual(len(set(pieces)), len(pieces))


class AllWalksTest(unittest.TestCase):
    def test_against_all_arcs(self):
        for hall in HALLS:
            order = {row[0]: at for at, row in enumerate(leads(hall))}
            for many in range(5 if len(leads(hall)) < 16 else 4):
                told = own_walks(hall, many)
                if len(told) > 20000:
                    continue
                found = same_after(self, all_walks, hall, many)
                self.assertEqual(found, sorted(told, key=lambda walk: (walk[0], [order[arc] for arc in walk[1]])))
                self.assertTrue(all(is_walk(hall, walk) for walk in found))

    def test_order(self):
        hall = ((("a", 1, ()), ("fill", 3, ())), (("fill", "a", 2, 1), ("a", "fill", 2, 1)), "fill")
        self.assertEqual(all_walks(hall, 2), [
            ("a", (("next", "a"), ("up", 0))), ("a", (("next", "a"), ("down", 1))), ("a", (("up", 0),)), ("a", (("down", 1),)),
            ("fill", (("next", "fill"),)), ("fill", (("down", 0), ("up", 0))), ("fill", (("down", 0), ("down", 1))),
            ("fill", (("up", 1), ("up", 0))), ("fill", (("up", 1), ("down", 1)))])

    def test_no_arcs_and_many(self):
        self.assertEqual([all_walks(hall, 0) for hall in HALLS[:5]], [[]] * 5)
        self.assertEqual([all_walks(LONE, many) for many in (1, 2, 400)], [[("fill", (("next", "fill"),))]] * 3)
        pair = ((("a", 1, ()), ("fill", 3, ())), (("a", "fill", 2, 1),), "fill")
        # From a any number of next ARCS and the belt; from the FILLER next, or up the belt and so on.
        self.assertEqual(len(all_walks(pair, 400)), 400 + 1 + 399)

    def test_a_new_list_each_time(self):
        check_new(self, all_walks, LINE, 5)
        check_new(self, all_walks, LONE, 0)

    def test_at_both_sides_of_the_bound(self):
        # Of two machines joined by BELTS, n in number, from a: i next ARCS, and one of the BELTS; from the FILLER: next,
        # or a BELT up, i next ARCS, and a BELT.
        def walks(belts, many):
            return belts * many + 1 + belts * belts * (many - 1)

        def pair(belts):
            return ((("a", 1, ()), ("fill", 3, ())), (("a", "fill", 2, 1),) * belts, "fill")

        for belts, many in ((1, 5), (2, 7), (12, 2), (12, 129)):
            self.assertEqual(len(all_walks(pair(belts), many)), walks(belts, many))
        self.assertEqual([walks(12, 129), walks(12, 130), walks(7, 358), walks(7, 359)], [19981, 20137, 20000, 20056])
        self.assertEqual(len(all_walks(pair(7), 358)), 20000)
        for belts, many in ((12, 130), (7, 359), (7, 400)):
            self.assertEqual(raised(self, TooMany, all_walks, pair(belts), many).most, 20000)
        self.assertEqual(raised(self, TooMany, all_walks, HALLS[-1], 400).most, 20000)
        # One more than 20,000 comes about by more BELTS than a HALL is to have.
        self.assertEqual([walks(19999, 1), walks(20000, 1)], [20000, 20001])
        self.assertEqual(len(all_walks(pair(19999), 1)), 20000)
        self.assertEqual(raised(self, TooMany, all_walks, pair(20000), 1).most, 20000)


class WayToFillerTest(unittest.TestCase):
    def test_as_few_as_can_be(self):
        for hall in HALLS:
            far = {hall[2]: 0}
            for _ in hall[0]:
                for start, end, _, _ in hall[1]:
                    for one, other in ((start, end), (end, start)):
                        if one in far:
                            far[other] = min(far.get(other, 99), far[one] + 1)
            for name, _, _ in hall[0]:
                arcs = same_after(self, way_to_filler, hall, name)
                self.assertIs(type(arcs), tuple)
                self.assertEqual(len(arcs), far[name])
                self.assertTrue(all(kind in ("down", "up") for kind, _ in arcs))
                self.assertIs(is_walk(hall, (name, arcs)), name != hall[2])

    def test_from_the_filler(self):
        self.assertEqual([way_to_filler(hall, hall[2]) for hall in HALLS[:5]], [()] * 5)
        self.assertEqual([way_to_filler(LINE, "wash"), way_to_filler(LINE, "cap"), way_to_filler(HALL, "cap")],
                         [(("down", 0), ("down", 1)), (("down", 1),), (("up", 1),)])


if __name__ == "__main__":
    unittest.main()
