"""[21]: what purses let within some pieces, and which purses are just enough."""

import random
import unittest

from fillerfed.purses import all_let, is_let
from fillerfed.windows import greedy, greedy_sum, least_back, least_size, most_taken, over_window
from samples import check_new, frozen, own_contents, same_after, some_taken

SMALL = [(1, 0), (1, 1), (2, 0), (2, 1), (2, 2), (1, 5), (3, 0), (3, 1), (3, 2), (3, 7)]


def own_over_window(purse, taken):
    """The least WINDOW with too much, of all that end no later than what is taken."""
    size, back = purse
    last_one = max(taken, default=-1)
    for first in range(last_one + 1):
        for last in range(first, last_one + 1):
            ticks = sum(taken.get(piece, 0) for piece in range(first, last + 1))
            if ticks > size + (last - first) * min(size, back):
                return (first, last)
    return None


class MostTakenTest(unittest.TestCase):
    def test_against_all_that_are_let(self):
        for purse in SMALL:
            for many in (1, 2, 4):
                rows = all_let(purse, many)
                for first in range(many):
                    for last in range(first, many):
                        most = max(sum(taken.get(piece, 0) for piece in range(first, last + 1)) for taken in rows)
                        self.assertEqual(same_after(self, most_taken, purse, first, last), most)

    def test_far_and_wide(self):
        self.assertEqual([most_taken((5, 2), 7, 7), most_taken((5, 2), 0, 399), most_taken((5, 9), 10, 12), most_taken((5, 0), 0, 10 ** 30)],
                         [5, 803, 15, 5])


class OverWindowTest(unittest.TestCase):
    def test_none_exactly_if_it_is_let(self):
        dice = random.Random(50)
        kinds = {True: 0, False: 0}
        for purse in (SMALL + [(7, 2), (5, 4), (30, 7)]) * 40:
            taken = some_taken(dice, purse, dice.choice((3, 8, 14)), let=dice.random() < 0.3)
            if dice.random() < 0.5:
                taken = {piece + 5: ticks for piece, ticks in taken.items()}
            found = same_after(self, over_window, purse, taken)
            self.assertEqual(found, own_over_window(purse, taken))
            self.assertIs(found is None, is_let(purse, taken))
            kinds[found is None] += 1
        self.assertGreater(min(kinds.values()), 100)

    def test_a_window_that_begins_ahead_of_all_that_is_taken(self):
        # 9 ticks at the piece 6 are 4 too many for (3, 1) there, and 2 for the WINDOW that begins two pieces earlier.
        self.assertEqual([over_window((3, 1), {6: 9}), over_window((3, 1), {6: 9, 0: 1}), over_window((3, 0), {6: 9}), over_window((3, 1), {6: 4})],
                         [(1, 6), (0, 6), (0, 6), (6, 6)])
        self.assertEqual([over_window((1, 5), {400: 3}), over_window((3, 2), {10 ** 30: 4}), over_window((3, 0), {10 ** 30: 4})],
                         [(399, 400), (10 ** 30, 10 ** 30), (0, 10 ** 30)])

    def test_far_too_much(self):
        # 9 ticks at the piece 6 are 4 too many for (5, 2) there, and 2 for a WINDOW of two pieces.
        self.assertEqual([over_window((5, 2), {6: 9}), over_window((5, 2), {6: 10}), over_window((5, 3), {9: 21, 12: 4})], [(5, 6), (4, 6), (4, 9)])
        dice = random.Random(55)
        for purse in ((5, 2), (7, 3), (4, 4), (3, 9), (6, 1)) * 20:
            taken = {dice.randint(3, 20): dice.randint(1, 25) for _ in range(dice.randint(1, 4))}
            self.assertEqual(over_window(purse, taken), own_over_window(purse, taken))

    def test_of_nothing(self):
        self.assertEqual([over_window((1, 0), {}), over_window((1, 0), {0: 1}), over_window((1, 0), {0: 2})], [None, None, (0, 0)])

    def test_four_hundred_pieces(self):
        taken = {piece: 2 for piece in range(399, -1, -1)}
        self.assertEqual([over_window((2, 2), taken), over_window((100, 1), taken), over_window((401, 1), taken)], [None, (0, 99), None])


class GreedyTest(unittest.TestCase):
    def test_all_that_is_held(self):
        dice = random.Random(51)
        for purse in (SMALL + [(7, 2), (5, 4), (30, 7)]) * 12:
            pieces = tuple(sorted(dice.sample(range(15), dice.randint(0, 8))))
            found = same_after(self, greedy, purse, pieces)
            self.assertTrue(is_let(purse, found))
            row = own_contents(purse, found, 15)
            self.assertEqual(frozen(found), frozen({piece: row[piece] for piece in pieces if row[piece]}))
            self.assertEqual(same_after(self, greedy_sum, purse, pieces), sum(found.values()))
            check_new(self, greedy, purse, pieces)

    def test_no_taken_that_is_let_has_more_there(self):
        dice = random.Random(52)
        for purse in SMALL:
            rows = all_let(purse, 5)
            for _ in range(8):
                pieces = tuple(sorted(dice.sample(range(5), dice.randint(0, 5))))
                self.assertEqual(greedy_sum(purse, pieces), max(sum(taken.get(piece, 0) for piece in pieces) for taken in rows))

    def test_edges(self):
        self.assertEqual([greedy((3, 1), ()), greedy_sum((3, 1), ()), greedy((3, 0), (0, 1, 9)), greedy((3, 5), (2, 3))], [{}, 0, {0: 3}, {2: 3, 3: 3}])
        self.assertEqual([greedy((100, 1), (10 ** 20, 10 ** 20 + 7)), greedy_sum((100, 1), tuple(range(400)))], [{10 ** 20: 100, 10 ** 20 + 7: 7}, 499])


class LeastTest(unittest.TestCase):
    def test_sizes_one_after_the_other(self):
        dice = random.Random(53)
        for _ in range(400):
            taken = some_taken(dice, (dice.randint(1, 8), dice.randint(0, 4)), dice.choice((1, 4, 9)), let=dice.random() < 0.5)
            back = dice.randint(0, 9)
            size = 1
            while not is_let((size, back), taken):
                size += 1
            self.assertEqual(same_after(self, least_size, back, taken), size)

    def test_backs_one_after_the_other(self):
        dice = random.Random(54)
        kinds = {True: 0, False: 0}
        for _ in range(400):
            taken = some_taken(dice, (dice.randint(1, 8), dice.randint(0, 4)), dice.choice((1, 4, 9)), let=dice.random() < 0.5)
            size = dice.randint(1, 9)
            # What is there anew at each piece is no more for a back above the size.
            enough = [back for back in range(size + 3) if is_let((size, back), taken)]
            found = same_after(self, least_back, size, taken)
            self.assertEqual(found, enough[0] if enough else None)
            kinds[found is None] += 1
        self.assertGreater(min(kinds.values()), 50)

    def test_edges(self):
        self.assertEqual([least_size(0, {}), least_size(7, {}), least_back(1, {}), least_back(9, {5: 9}), least_back(9, {5: 10})], [1, 1, 0, 0, None])
        self.assertEqual([least_size(0, {9: 4, 0: 3}), least_size(100, {0: 4, 1: 4}), least_size(3, {0: 4, 1: 4})], [7, 4, 5])
        self.assertEqual([least_back(4, {0: 4, 1: 4}), least_back(4, {0: 4, 9: 4}), least_back(4, {0: 4, 1: 5}), least_back(3, {0: 3, 7: 1})], [4, 1, None, 1])

    def test_four_hundred_pieces(self):
        taken = {piece: 1 + piece % 3 for piece in range(399, -1, -1)}
        self.assertEqual([least_size(2, taken), least_size(0, taken), least_back(3, taken), least_back(9, taken)], [3, 799, 2, 2])
        self.assertEqual([is_let((2, 2), taken), is_let((3, 2), taken), is_let((9, 1), taken)], [False, True, False])


if __name__ == "__main__":
    unittest.main()
