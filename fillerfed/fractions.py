"""Fractions: tuples (n, d) of integers, d from 1 on, without a common divisor above 1."""

from math import gcd


def reduced(n, d):
    """The fraction that stands for n / d, d being any integer but 0."""
    common = gcd(n, d)
    if d < 0:
        common = -common
    return (n // common, d // common)


def added(one, other):
    """The sum of two fractions."""
    return reduced(one[0] * other[1] + other[0] * one[1], one[1] * other[1])


def lessened(one, other):
    """One fraction less the other one."""
    return reduced(one[0] * other[1] - other[0] * one[1], one[1] * other[1])


def times(one, other):
    """The product of two fractions."""
    return reduced(one[0] * other[0], one[1] * other[1])


def compared(one, other):
    """-1, 0 or 1, as one is less than, as great as, or greater than other."""
    # Divisors are above 0, so the order stays when both sides are multiplied by them.
    left = one[0] * other[1]
    right = other[0] * one[1]
    if left < right:
        return -1
    if left > right:
        return 1
    return 0


def fraction_text(one):
    """A fraction as a string: n, or n/d if d is not 1."""
    n, d = one
    if d == 1:
        return str(n)
    return f"{n}/{d}"
