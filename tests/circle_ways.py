"""Turn maps by exact points of the line, as ratios of whole numbers, and the maps that the tests ask about."""

from fractions import Fraction
from functools import cache
from itertools import product
from math import floor
from random import Random


def random_maps(seed, many, parts, most):
    """Return so many turn maps with so many parts and entries from -most to most; the same for the same seed."""
    rng = Random(seed)
    return [tuple(rng.randint(-most, most) for _ in range(parts)) for _ in range(many)]


def random_rising(seed, many, parts):
    """Return so many rising turn maps with so many parts."""
    rng = Random(seed)
    found = []
    for _ in range(many):
        first = rng.randint(-12, 12)
        found.append((first, *sorted(first + rng.randint(0, parts) for _ in range(parts - 1))))
    return found


def near_maps(seed, many, parts, most):
    """Return so many turn maps whose neighboring entries differ by at most `most`."""
    rng = Random(seed)
    found = []
    while len(found) < many:
        turns = [rng.randint(-4, 4)]
        for _ in range(parts - 1):
            turns.append(turns[-1] + rng.randint(-most, most))
        if abs(turns[0] + parts - turns[-1]) <= most:
            found.append(tuple(turns))
    return found


def drifting_maps(seed, many, parts):
    """Return so many turn maps whose entries are near to those of a map that moves all points alike."""
    rng = Random(seed)
    found = []
    for _ in range(many):
        first = rng.randint(-8, 8)
        found.append(tuple(first + k + rng.randint(-2, 2) for k in range(parts)))
    return found


SMALL = [turns for parts in (1, 2, 3) for turns in product(range(-2, 5 - parts), repeat=parts)]
# Flat in places, falling, turned around as a whole, or taken by pieces one to one.
SPECIAL = [(0,), (40,), (-40,), (0, 0), (0, 1), (1, 2), (1, 0), (0, 3), (3, 0), (40, 40), (-40, 40), (40, -40),
           (1, 1, 1), (0, 1, 2), (1, 2, 3), (2, 1, 0), (1, 0, 2), (3, 2, 1, 0), (0, 2, 1, 3), (1, 0, 3, 2),
           (2, 3, 1, 0), (1, 2, 0, 3),
           (0, 0, 4, 4), (0, 4, 4, 0), (5, 4, 3, 2), (0, 1, 2, 3, 4, 5, 6, 7), (1, 2, 3, 4, 5, 6, 7, 8),
           (7, 6, 5, 4, 3, 2, 1, 0), (3, 4, 5, 6, 7, 8, 9, 10), (0,) * 8, (40,) * 8, (-40,) * 8,
           (0, 0, 0, 0, 8, 8, 8, 8), (-40, 40) * 4]
RISING = [(0,), (40,), (-40,), (0, 1), (0, 0), (0, 2), (1, 2), (-40, -38), (38, 40), (0, 1, 2), (1, 2, 3), (0, 3, 3)]
RISING += [found for parts in range(2, 9) for found in random_rising(parts, 25, parts)]
# The least and the greatest rotation are unlike, and the smallest bottoms between them are 2, 3, 4 and 5.
NARROW = [(5, 6, 8, 8, 10, 11, 8, 13), (2, 5, 5, 7, 10, 11, 12), (6, 5, 6, 7, 7, 9, 11), (1, 3, 5, 5, 7, 6, 9),
          (-4, 0, -2, 1, 3, 3, 5, 6), (1, 2, 3, 6, 5, 7, 8), (-2, -1, 1, 2, 1, 3, 5, 6), (-6, -5, -2, -3, -2, -1, 0)]
NEAR = [found for parts in (2, 3, 4) for found in near_maps(parts, 30, parts, 2)] + near_maps(9, 12, 5, 1)
DRIFTING = [found for parts in (5, 6, 7, 8) for found in drifting_maps(parts, 15, parts)]
MANY = SMALL + SPECIAL + RISING + NEAR + NARROW + DRIFTING
MANY += random_maps(1, 30, 4, 6) + random_maps(2, 20, 5, 40) + random_maps(3, 20, 8, 40) + random_maps(4, 5, 6, 9)


def value(turns, x):
    """Return where the map of the line takes a point."""
    many = len(turns)
    ends = [Fraction(entry, many) for entry in turns] + [Fraction(turns[0], many) + 1]
    whole = floor(x)
    at = floor((x - whole) * many)
    return whole + ends[at] + (ends[at + 1] - ends[at]) * ((x - whole) * many - at)


def is_rising(turns):
    """Return whether the map of the line is nowhere smaller on the right."""
    return all(value(turns, Fraction(k, len(turns))) <= value(turns, Fraction(k + 1, len(turns))) for k in range(30))


def bends(turns, steps):
    """Return points (x, y) from 0 to 1 between which the map done so many times is linear."""
    many = len(turns)
    found = [(Fraction(k, many), Fraction(k, many)) for k in range(many + 1)]
    for _ in range(steps):
        finer = found[:1]
        for (low, start), (high, end) in zip(found, found[1:]):
            for k in range(1, abs(int((end - start) * many))):
                y = start + Fraction(k if end > start else -k, many)
                finer.append((low + (high - low) * (y - start) / (end - start), y))
            finer.append((high, end))
        found = [(x, value(turns, y)) for x, y in finer]
    return found


@cache
def turning_points(turns, top, bottom):
    """Return the points from 0 to 1 that are taken `top` on in `bottom` steps; of a whole piece of them only some."""
    found = bends(turns, bottom)
    points = {x for x, y in found if y == x + top}
    for (low, start), (high, end) in zip(found, found[1:]):
        left, right = start - low - top, end - high - top
        if left * right < 0:
            points.add(low + (high - low) * left / (left - right))
        if left == right == 0:
            points |= {low + (high - low) * Fraction(k, 31) for k in range(1, 31)}
    return sorted(points)


def turn_of(turns, x, most):
    """Return the (top, bottom) with which a point turns, or None if it has not come back after so many steps."""
    here = x
    for steps in range(1, most + 1):
        here = value(turns, here)
        if (here - x).denominator == 1:
            return int(here - x), steps
    return None


def has_turn(turns, top, bottom):
    """Return whether some point turns with a ratio, by all points that are taken so far on in so many steps."""
    return any(turn_of(turns, x, bottom) == (top, bottom) for x in turning_points(turns, top, bottom))


def followed(turns, x, steps):
    """Return how far the map takes a point on in so many steps."""
    here = x
    for _ in range(steps):
        here = value(turns, here)
    return here - x
