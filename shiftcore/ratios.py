"""Ratios of integers: pairs (top, bottom) in lowest terms with a positive bottom."""

from math import gcd


def ratio(top, bottom):
    """Return the ratio of two integers, the second one not 0."""
    divisor = gcd(top, bottom)
    if bottom < 0:
        divisor = -divisor
    return top // divisor, bottom // divisor
