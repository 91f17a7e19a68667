"""[11]: fractions."""

import unittest
from fractions import Fraction
from math import gcd

from fillerfed.fractions import added, compared, fraction_text, lessened, reduced, times
from samples import same_after

GREAT = 10 ** 40

NUMBERS = (0, 1, -1, 2, -2, 3, 4, -6, 7, 12, 100, GREAT, -GREAT, GREAT + 1, 3 * GREAT)
DIVISORS = tuple(number for number in NUMBERS if number != 0)
FRACTIONS = ((0, 1), (1, 1), (-1, 1), (1, 2), (-1, 2), (2, 3), (3, 4), (-7, 5), (12, 1), (GREAT, GREAT + 1), (GREAT - 1, GREAT),
             (GREAT + 1, GREAT), (1, GREAT), (-1, GREAT), (GREAT, 1), (-GREAT, 1), (-GREAT, GREAT + 1))


def plain(one):
    """A fraction of Python for one of ours."""
    return Fraction(one[0], one[1])


class FractionsTest(unittest.TestCase):
    def check(self, found, worth):
        self.assertIs(type(found), tuple)
        self.assertEqual(list(map(type, found)), [int, int])
        n, d = found
        self.assertGreaterEqual(d, 1)
        self.assertEqual(gcd(n, d), 1)
        self.assertEqual(plain(found), worth)

    def test_reduced(self):
        for n in NUMBERS:
            for d in DIVISORS:
                self.check(same_after(self, reduced, n, d), Fraction(n, d))

    def test_reduced_edges(self):
        self.assertEqual([reduced(0, -7), reduced(0, 1), reduced(-4, -6), reduced(4, -6), reduced(6, 3), reduced(-6, 3)],
                         [(0, 1), (0, 1), (2, 3), (-2, 3), (2, 1), (-2, 1)])

    def test_sums_differences_and_products(self):
        for one in FRACTIONS:
            for other in FRACTIONS:
                self.check(same_after(self, added, one, other), plain(one) + plain(other))
                self.check(same_after(self, lessened, one, other), plain(one) - plain(other))
                self.check(same_after(self, times, one, other), plain(one) * plain(other))

    def test_compared_by_what_they_stand_for(self):
        for one in FRACTIONS:
            for other in FRACTIONS:
                found = same_after(self, compared, one, other)
                self.assertIs(type(found), int)
                self.assertEqual(found, (plain(one) > plain(other)) - (plain(one) < plain(other)))

    def test_compared_near_one_another(self):
        self.assertEqual([compared((GREAT, GREAT + 1), (GREAT + 1, GREAT + 2)), compared((GREAT + 1, GREAT), (GREAT, GREAT - 1)),
                          compared((1, 3), (33333333333333333, 100000000000000000)), compared((-1, 2), (-1, 3)), compared((2, 1), (1, 1)),
                          compared((-3, 2), (-3, 2))], [-1, -1, 1, -1, 1, 0])

    def test_fraction_text(self):
        for one, text in (((0, 1), "0"), ((7, 1), "7"), ((-7, 1), "-7"), ((-3, 2), "-3/2"), ((1, 10), "1/10"),
                          ((GREAT, 1), "1" + "0" * 40), ((1, GREAT), "1/1" + "0" * 40)):
            self.assertEqual(same_after(self, fraction_text, one), text)


if __name__ == "__main__":
    unittest.main()
