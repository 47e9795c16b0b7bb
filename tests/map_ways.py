"""The map of a pattern by exact points, as ratios of whole numbers, and the patterns that the tests ask about."""

from fractions import Fraction
from functools import cache
from itertools import permutations
from random import Random


def is_cycle(entries):
    """Return whether all numbers are met if one begins with 0."""
    met = [0]
    while entries[met[-1]] not in met:
        met.append(entries[met[-1]])
    return len(met) == len(entries) and entries[met[-1]] == 0


@cache
def all_patterns(many):
    """Return all patterns of so many numbers."""
    return [entries for entries in permutations(range(many)) if is_cycle(entries)]


def some_patterns(seed, many, numbers):
    """Return so many patterns of so many numbers; the same ones for the same seed."""
    rng = Random(seed)
    found = []
    for _ in range(many):
        met = [0] + rng.sample(range(1, numbers), numbers - 1)
        found.append(tuple(met[(met.index(k) + 1) % numbers] for k in range(numbers)))
    return found


SMALL = [pattern for many in (1, 2, 3, 4) for pattern in all_patterns(many)]
FIVE = all_patterns(5)
# Doubles: they have a band, if they have more than one number.
DOUBLES = [(1, 0), (3, 2, 0, 1), (3, 2, 4, 5, 0, 1), (7, 6, 4, 5, 0, 1, 2, 3)]
# Other patterns with a band, whose pairs go another way round.
BANDS = DOUBLES + [(2, 3, 1, 0), (4, 5, 1, 0, 2, 3), (2, 3, 5, 4, 0, 1), (2, 3, 4, 5, 1, 0)]
LARGE = some_patterns(1, 8, 6) + some_patterns(2, 6, 7) + some_patterns(3, 4, 8) + some_patterns(4, 4, 9)


def value(pattern, x):
    """Return where the map of a pattern takes a point."""
    at = min(int(x), len(pattern) - 1)
    if at == x:
        return Fraction(pattern[at])
    return pattern[at] + (pattern[at + 1] - pattern[at]) * (x - at)


def bends(pattern, steps):
    """Return points (x, y) between which the map is linear if it is done so many times; all y are whole numbers."""
    found = [(Fraction(k), k) for k in range(len(pattern))]
    for at in range(steps):
        finer = found[:1]
        for (low, start), (high, end) in zip(found, found[1:]):
            sign = 1 if end > start else -1
            finer += [(low + (high - low) * Fraction(k - start, end - start), k)
                      for k in range(start + sign, end + sign, sign)]
        found = [(x, pattern[y]) for x, y in finer]
    return found


@cache
def fixed_points(pattern, steps):
    """Return the points that the map takes back after so many steps; of a whole piece of them only a few points."""
    found = bends(pattern, steps)
    fixed = {x for x, y in found if x == y}
    for (low, start), (high, end) in zip(found, found[1:]):
        if (start - low) * (end - high) < 0:
            fixed.add(low + (high - low) * (start - low) / ((start - low) - (end - high)))
        if start == low and end == high:
            fixed |= {low + (high - low) * Fraction(k, 12) for k in range(1, 12)}
    return sorted(fixed)


@cache
def cycles(pattern, period):
    """Return the cycles of points with a least period, each one from its smallest point."""
    found = set()
    for x in fixed_points(pattern, period):
        points = [x]
        while value(pattern, points[-1]) != x:
            points.append(value(pattern, points[-1]))
        if len(points) == period and x == min(points):
            found.add(tuple(points))
    return found


def pattern_of(points):
    """Return the pattern of a cycle of points."""
    ordered = sorted(points)
    after = dict(zip(points, points[1:] + points[:1]))
    return tuple(ordered.index(after[x]) for x in ordered)


def has_band(pattern):
    """Return whether some piece comes back to itself, one to one, after some steps."""
    for piece in range(len(pattern) - 1):
        ends = (piece, piece + 1)
        for _ in range(2 * len(pattern)):
            ends = (pattern[ends[0]], pattern[ends[1]])
            if abs(ends[0] - ends[1]) != 1:
                break
            if sorted(ends) == [piece, piece + 1]:
                return True
    return False


def order_key(number):
    """Return the rank of a number in the order that begins with 3, 5, 7, .. and ends with .., 4, 2, 1."""
    twos = (number & -number).bit_length() - 1
    odd = number >> twos
    return (1, -twos) if odd == 1 else (0, twos, odd)
