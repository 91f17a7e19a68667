"""[20]: what purses hold, and what they let."""

import itertools
import random
import unittest

from fillerfed.errors import TooMany
from fillerfed.purses import all_let, are_let, first_not_let, first_over, held, holdings, is_let, taken_of
from samples import HALL, LONE, check_new, frozen, let_stops, live_halls, own_contents, raised, same_after, some_halls, some_stops, some_taken

PURSES = [(1, 0), (1, 1), (3, 0), (3, 1), (3, 2), (3, 3), (3, 4), (2, 9), (5, 2), (100, 100), (7, 100)]


def own_first_over(purse, taken):
    """The least piece at which more is taken than there is, piece by piece."""
    row = own_contents(purse, taken, max(taken, default=0) + 1)
    over = [piece for piece in sorted(taken) if taken[piece] > row[piece]]
    return over[0] if over else None


def own_all_let(purse, many):
    """All TAKEN that are LET, of all rows of what is taken at each piece."""
    found = []
    for row in itertools.product(range(purse[0] + 1), repeat=many):
        taken = {piece: ticks for piece, ticks in enumerate(row) if ticks}
        if own_first_over(purse, taken) is None:
            found.append(taken)
    return found


class TakenTest(unittest.TestCase):
    def test_in_whichever_order(self):
        stops = {("wash", 9, 0): 4, ("wash", 10, 1): 7, ("cap", 3, 0): 2, ("wash", 2, 0): 1, ("wash", 0, 1): 3, ("wash", 30, 0): 5}
        self.assertEqual(frozen(same_after(self, taken_of, stops, "wash", 0)), frozen({2: 1, 9: 4, 30: 5}))
        self.assertEqual(frozen(taken_of(stops, "wash", 1)), frozen({0: 3, 10: 7}))
        self.assertEqual([taken_of(stops, "cap", 0), taken_of(stops, "cap", 1), taken_of({}, "cap", 0)], [{3: 2}, {}, {}])
        check_new(self, taken_of, stops, "wash", 0)

    def test_all_that_is_drawn(self):
        dice = random.Random(40)
        for hall in some_halls(40, 60):
            stops = some_stops(dice, hall)
            for name, _, purses in hall[0]:
                for index in range(len(purses)):
                    found = taken_of(stops, name, index)
                    self.assertEqual(list(found), sorted(found))
                    self.assertEqual({(name, piece, index): ticks for piece, ticks in found.items()},
                                     {key: ticks for key, ticks in stops.items() if (key[0], key[2]) == (name, index)})


class HeldTest(unittest.TestCase):
    def test_piece_by_piece(self):
        dice = random.Random(41)
        for purse in PURSES * 12:
            taken = some_taken(dice, purse, 12, let=True)
            row = own_contents(purse, taken, 30)
            for piece in range(30):
                self.assertEqual(same_after(self, held, purse, taken, piece), row[piece])

    def test_what_is_over_at_the_piece_or_behind_it_is_no_matter(self):
        self.assertEqual([held((3, 1), {1: 2, 4: 9, 5: 1}, piece) for piece in range(5)], [3, 3, 2, 3, 3])
        self.assertEqual([held((3, 0), {0: 9}, 0), held((3, 1), {4: 4}, 4), held((3, 1), {7: 50, 2: 3}, 3)], [3, 3, 1])

    def test_far_behind(self):
        self.assertEqual([held((5, 0), {3: 4}, 10 ** 30), held((5, 0), {}, 10 ** 30), held((100, 1), {10 ** 20: 100}, 10 ** 20 + 99)], [1, 5, 99])
        self.assertEqual([held((100, 1), {0: 100}, 99), held((100, 1), {0: 100}, 100), held((100, 1), {0: 100}, 101)], [99, 100, 100])

    def test_backs_of_all_kinds(self):
        self.assertEqual([held((3, 0), {0: 3}, piece) for piece in range(4)], [3, 0, 0, 0])
        self.assertEqual([held((3, 2), {0: 3}, piece) for piece in range(4)], [3, 2, 3, 3])
        self.assertEqual([held((3, 3), {0: 3}, piece) for piece in range(4)], [3, 3, 3, 3])
        self.assertEqual([held((3, 8), {0: 1, 1: 3}, piece) for piece in range(4)], [3, 3, 3, 3])


class LetTest(unittest.TestCase):
    def test_of_drawn_ones(self):
        dice = random.Random(42)
        let = 0
        for purse in PURSES * 30:
            taken = some_taken(dice, purse, 10, let=dice.random() < 0.4)
            over = own_first_over(purse, taken)
            self.assertIs(same_after(self, is_let, purse, taken), over is None)
            self.assertEqual(same_after(self, first_over, purse, taken), over)
            let += over is None
        self.assertGreater(let, 80)
        self.assertLess(let, len(PURSES) * 25)

    def test_first_over(self):
        self.assertEqual([first_over((3, 1), {}), first_over((3, 1), {0: 4}), first_over((3, 1), {0: 3, 1: 1, 2: 2})], [None, 0, 2])
        self.assertEqual([first_over((3, 0), {9: 1, 400: 2, 7: 1}), first_over((1, 0), {10 ** 30: 1, 5: 1})], [400, 10 ** 30])
        self.assertEqual([first_over((2, 9), {5: 2, 6: 2, 7: 3}), is_let((2, 9), {5: 2, 6: 2})], [7, True])

    def test_a_taken_that_is_let_nowhere(self):
        taken = {piece: 4 for piece in range(10)}
        self.assertEqual([is_let((3, 3), taken), first_over((3, 3), taken), first_over((3, 0), dict(reversed(taken.items())))], [False, 0, 0])

    def test_of_stops(self):
        dice = random.Random(43)
        kinds = {True: 0, False: 0}
        for hall, stops in live_halls(43, 150):
            for stops in (stops, let_stops(dice, hall), {}):
                over = []
                for name, _, purses in hall[0]:
                    for index, purse in enumerate(purses):
                        piece = own_first_over(purse, {at: ticks for (one, at, of), ticks in stops.items() if (one, of) == (name, index)})
                        if piece is not None:
                            over.append((name, piece, index))
                self.assertIs(same_after(self, are_let, hall, stops), not over)
                self.assertEqual(same_after(self, first_not_let, hall, stops), min(over) if over else None)
                kinds[not over] += 1
        self.assertGreater(min(kinds.values()), 30)

    def test_the_least_of_several(self):
        stops = {("wash", 0, 0): 9, ("wash", 5, 1): 1, ("wash", 4, 1): 2, ("cap", 7, 0): 3, ("cap", 9, 0): 9}
        self.assertEqual(first_not_let(HALL, stops), ("cap", 7, 0))
        del stops[("cap", 7, 0)], stops[("cap", 9, 0)]
        self.assertEqual(first_not_let(HALL, stops), ("wash", 0, 0))
        self.assertEqual(first_not_let(HALL, {("wash", 3, 0): 4, ("wash", 2, 1): 2}), ("wash", 2, 1))
        self.assertEqual(first_not_let(HALL, {("wash", 3, 1): 2, ("wash", 3, 0): 4}), ("wash", 3, 0))
        self.assertEqual([are_let(HALL, {("wash", 3, 0): 3, ("wash", 3, 1): 1}), are_let(LONE, {})], [True, True])


class HoldingsTest(unittest.TestCase):
    def test_piece_by_piece(self):
        dice = random.Random(44)
        for hall in some_halls(44, 60):
            stops = let_stops(dice, hall, 9)
            for many in (0, 1, 6, 14):
                found = same_after(self, holdings, hall, stops, many)
                self.assertEqual(list(found), [(name, index) for name, _, purses in hall[0] for index in range(len(purses))])
                for (name, index), row in found.items():
                    purse = {one: purses for one, _, purses in hall[0]}[name][index]
                    taken = {piece: ticks for (one, piece, of), ticks in stops.items() if (one, of) == (name, index)}
                    self.assertEqual(row, own_contents(purse, taken, many))
                    self.assertIs(type(row), tuple)
            check_new(self, holdings, hall, stops, 5)

    def test_none_and_no_pieces(self):
        self.assertEqual([holdings(LONE, {}, 5), holdings(HALL, {("wash", 0, 0): 2}, 0)], [{}, {("cap", 0): (), ("wash", 0): (), ("wash", 1): ()}])
        self.assertEqual(holdings(HALL, {}, 2), {("cap", 0): (2, 2), ("wash", 0): (3, 3), ("wash", 1): (1, 1)})


class AllLetTest(unittest.TestCase):
    def test_against_all_rows(self):
        for purse in ((1, 0), (1, 1), (2, 0), (2, 1), (2, 3), (3, 1), (4, 2)):
            for many in range(5):
                found = same_after(self, all_let, purse, many)
                self.assertEqual(found, own_all_let(purse, many))
                self.assertEqual([list(taken) for taken in found], [sorted(taken) for taken in found])
                check_new(self, all_let, purse, many)

    def test_no_two_dicts_are_one(self):
        found = all_let((2, 1), 3)
        self.assertEqual(len({id(taken) for taken in found}), len(found))
        kept = [dict(taken) for taken in found]
        found[0][7] = 7
        self.assertEqual(found[1:], kept[1:])

    def test_no_pieces(self):
        self.assertEqual([all_let((100, 100), 0), all_let((1, 0), 1)], [[{}], [{}, {0: 1}]])

    def test_too_many(self):
        # A PURSE without a back that HOLDS one gives it at one of the pieces, or at none.
        self.assertEqual(len(all_let((1, 0), 399)), 400)
        # A PURSE that is full at each piece lets as many as there are rows of numbers up to its size.
        self.assertEqual([len(all_let((1, 1), 12)), len(all_let((100, 0), 1)), len(all_let((4999, 1), 1))], [4096, 101, 5000])
        self.assertEqual(raised(self, TooMany, all_let, (5000, 1), 1).most, 5000)
        self.assertEqual(raised(self, TooMany, all_let, (1, 1), 13).most, 5000)
        self.assertEqual(raised(self, TooMany, all_let, (100, 100), 400).most, 5000)

    def test_at_both_sides_of_the_bound(self):
        # Of (size, 0) there are as many as ways to share at most size among the pieces.
        self.assertEqual(len(all_let((2, 0), 98)), 100 * 99 // 2)
        raised(self, TooMany, all_let, (2, 0), 99)
        self.assertEqual(len(all_let((69, 99), 2)), 4900)
        raised(self, TooMany, all_let, (70, 99), 2)


if __name__ == "__main__":
    unittest.main()
