"""Point 11: growth and walk growth, compared and rounded down."""

import unittest
from fractions import Fraction
from itertools import product

from shiftcore.errors import BadLength, BadWeb
from shiftcore.growth import compare_growth, compare_walks, growth_floor, walks_floor
from shiftcore.readers import reader
from tests import limits, plain
from tests.cases import WithLimits

SMALL = plain.SPECIAL + plain.sparse_webs(61, 50, 3, 2, 80) + plain.sparse_webs(62, 40, 4, 3, 60)
SMALL += plain.random_webs(63, 30, 5, 4, 2)
ROUNDS = 400


def word_arrows(web):
    """Return the arrows between sets of ends, one for each label; unlike sets with like words do no harm."""
    states, edges = plain.core(web)
    sets = [frozenset(states)] if states else []
    arrows = []
    for here in sets:
        for label in range(4):
            there = frozenset(end for start, end, mark in edges if start in here and mark == label)
            if there:
                if there not in sets:
                    sets.append(there)
                arrows.append((sets.index(here), sets.index(there)))
    return arrows


def walk_arrows(web):
    """Return the arrows of the essential web."""
    return [(start, end) for start, end, _ in plain.core(web)[1]]


def reach(arrows):
    """Return, for each state, the states to which walks of at least one arrow lead."""
    found = {}
    for state in {k for pair in arrows for k in pair}:
        queue = [state]
        met = set()
        for here in queue:
            fresh = {end for start, end in arrows if start == here} - met
            met |= fresh
            queue.extend(fresh)
        found[state] = met
    return found


def growth_bounds(arrows):
    """Return fractions between which the growth lies: in a part, between the least and greatest (A v)(i) / v(i)."""
    goals = reach(arrows)
    bounds = [(Fraction(0), Fraction(0))]
    for state, goal in goals.items():
        part = [k for k in goal if state in goals[k]]
        if state not in part or state != min(part):
            continue
        inner = [(start, end) for start, end in arrows if start in part and end in part]
        vector = {k: 1 for k in part}
        for _ in range(ROUNDS):
            fresh = dict(vector)
            for start, end in inner:
                fresh[start] += vector[end]
            vector = fresh
            # Only about 400 bits are kept; the bounds hold for every positive vector.
            spare = max(0, min(value.bit_length() for value in vector.values()) - 400)
            vector = {k: value >> spare for k, value in vector.items()}
        moved = {k: sum(vector[end] for start, end in inner if start == k) for k in part}
        ratios = [Fraction(moved[k], vector[k]) for k in part]
        bounds.append((min(ratios), max(ratios)))
    return max(low for low, _ in bounds), max(high for _, high in bounds)


class Floors(WithLimits):
    def check_floors(self, function, web, arrows):
        low, high = growth_bounds(arrows)
        for places in (0, 1, 3, 12):
            found = function(web, places)
            self.assertIs(found.__class__, int)
            self.assertGreaterEqual(high, Fraction(found, 10 ** places))
            self.assertLess(low, Fraction(found + 1, 10 ** places))
        # The bounds must be close, or the test would tell nothing.
        self.assertLess(high - low, Fraction(1, 100))

    def test_growth_by_bounds(self):
        for web in SMALL:
            self.check_floors(growth_floor, web, word_arrows(web))

    def test_walks_by_bounds(self):
        for web in SMALL:
            self.check_floors(walks_floor, web, walk_arrows(web))

    def test_empty_shift(self):
        for web in (plain.EMPTY, (7, ()), plain.DEAD):
            for places in (0, 12):
                self.assertEqual(growth_floor(web, places), 0)
                self.assertEqual(walks_floor(web, places), 0)

    def test_whole_numbers(self):
        for web, growth in [(plain.POINT, 1), (plain.FULL, 2), (plain.FULL_THREE, 3), (plain.FULL_FOUR, 4),
                            (plain.RING, 1), (plain.APART, 1), (plain.TWO_LOOPS, 1), (plain.ring(32), 1)]:
            for places in range(13):
                self.assertEqual(growth_floor(web, places), growth * 10 ** places)
                self.assertEqual(walks_floor(web, places), growth * 10 ** places)

    def test_decimals(self):
        for function in (growth_floor, walks_floor):
            self.assertEqual(function(plain.GOLDEN, 12), 1618033988749)
            self.assertEqual([function(plain.GOLDEN, n) for n in range(5)], [1, 16, 161, 1618, 16180])
            # Two labels on every second edge: the square root of 2.
            self.assertEqual(function((2, ((0, 1, 0), (0, 1, 1), (1, 0, 2))), 12), 1414213562373)
            # Three: the square root of 3.
            self.assertEqual(function((2, ((0, 1, 0), (0, 1, 1), (0, 1, 3), (1, 0, 2))), 12), 1732050807568)
        self.assertEqual(growth_floor(plain.EVEN, 12), 1618033988749)

    def test_walks_that_read_the_same(self):
        twice = (2, ((0, 0, 0), (0, 1, 0), (1, 0, 0), (1, 1, 0)))
        self.assertEqual([growth_floor(twice, 3), walks_floor(twice, 3)], [1000, 2000])
        dense = (5, tuple((s, e, a) for s in range(5) for e in range(5) for a in range(4)))
        self.assertEqual([growth_floor(dense, 2), walks_floor(dense, 2)], [400, 2000])
        square = (10, tuple((s, e, 1) for s in range(10) for e in range(10)))
        self.assertEqual([growth_floor(square, 12), walks_floor(square, 12)], [10 ** 12, 10 ** 13])
        self.assertEqual(compare_walks(square, dense), -1)
        self.assertEqual(compare_growth(square, dense), -1)
        self.assertEqual(walks_floor(plain.TAILS, 12), 1618033988749)

    def test_near_whole_numbers(self):
        # Few words are barred: the growth is a little less than 3.
        self.assertEqual(growth_floor(limits.marked((18,)), 0), 2)
        self.assertEqual(growth_floor(limits.marked((18,)), 1), 29)
        low, high = growth_bounds(word_arrows(limits.marked((18,))))
        self.assertEqual(growth_floor(limits.marked((18,)), 12), int(low * 10 ** 12))
        self.assertLess(high, 3)

    def test_large_webs(self):
        chords = plain.ring(32)[1] + tuple((k, (7 * k + 3) % 32, 1) for k in range(32))
        web = (32, tuple(sorted(set(chords))))
        self.check_floors(walks_floor, web, walk_arrows(web))
        self.check_floors(growth_floor, limits.READER_40, word_arrows(limits.READER_40))

    def test_too_many(self):
        self.assertEqual(len(reader(limits.READER_40)), 40)
        self.assertEqual(len(reader(limits.READER_41)), 41)
        self.assertEqual(compare_growth(limits.READER_40, limits.READER_40), 0)
        self.check_too_many(40, growth_floor, limits.READER_41, 0)
        self.check_too_many(40, growth_floor, limits.SETS_200, 0)
        self.check_too_many(40, compare_growth, limits.READER_41, plain.EMPTY)
        self.check_too_many(40, compare_growth, plain.EMPTY, limits.READER_41)
        self.check_too_many(200, growth_floor, limits.SETS_201, 0)
        # Both readers are made before their sizes are looked at.
        self.check_too_many(200, compare_growth, limits.READER_41, limits.SETS_201)
        self.check_too_many(200, compare_growth, limits.SETS_201, limits.READER_41)
        for function in (growth_floor, walks_floor):
            for value in (-1, 13, True, None):
                with self.assertRaises(BadLength):
                    function(limits.SETS_201, value)
        for function in (compare_growth, compare_walks):
            with self.assertRaises(BadWeb):
                function(limits.SETS_201, None)

    def test_walks_have_no_reader(self):
        for web in (limits.READER_41, limits.SETS_201, limits.WHOLE_SETS_201):
            self.check_floors(walks_floor, web, walk_arrows(web))
            self.assertEqual(compare_walks(web, web), 0)
            self.assertEqual(compare_walks(web, plain.POINT), 1)


class Comparing(unittest.TestCase):
    def check_signs(self, function, webs, arrows_of):
        bounds = [growth_bounds(arrows_of(web)) for web in webs]
        for (one, left), (other, right) in product(list(zip(webs, bounds)), repeat=2):
            found = function(one, other)
            self.assertIs(found.__class__, int)
            self.assertEqual(found, -function(other, one))
            if left[1] < right[0]:
                self.assertEqual(found, -1)
            elif right[1] < left[0]:
                self.assertEqual(found, 1)

    def test_growth_by_bounds(self):
        self.check_signs(compare_growth, SMALL[::3], word_arrows)

    def test_walks_by_bounds(self):
        self.check_signs(compare_walks, SMALL[::3], walk_arrows)

    def test_equal_growths_of_webs_with_the_same_shift(self):
        for web in SMALL:
            for other in plain.same_shift_webs(web):
                self.assertEqual(compare_growth(web, other), 0)
            self.assertEqual(compare_walks(web, plain.same_shift_webs(web)[0]), 0)
            self.assertEqual(compare_walks(web, web), 0)

    def test_equal_growths_of_unlike_webs(self):
        root = (2, ((0, 1, 0), (0, 1, 1), (1, 0, 2)))
        other_root = (4, ((0, 1, 0), (0, 3, 1), (1, 2, 0), (2, 1, 3), (2, 3, 2), (3, 0, 0)))
        golden_twice = (4, ((0, 0, 0), (0, 1, 1), (1, 0, 0), (2, 2, 3), (2, 3, 2), (3, 2, 3)))
        doubled = (2, ((0, 0, 2), (0, 1, 3), (1, 0, 0), (1, 1, 1)))
        for one, other in [(plain.GOLDEN, plain.EVEN), (plain.GOLDEN, golden_twice), (plain.FULL, doubled),
                           (plain.POINT, plain.RING), (plain.POINT, plain.TWO_LOOPS), (root, other_root),
                           (plain.FULL, (3, ((0, 0, 1), (0, 0, 3), (1, 2, 0), (2, 1, 2)))), (plain.EMPTY, plain.DEAD)]:
            for function in (compare_growth, compare_walks):
                self.assertEqual(function(one, other), 0)
                self.assertEqual(function(other, one), 0)

    def test_unlike_growths(self):
        order = [plain.EMPTY, plain.POINT, (2, ((0, 1, 0), (0, 1, 1), (1, 0, 2))), plain.GOLDEN, plain.FULL,
                 plain.FULL_THREE, plain.FULL_FOUR]
        for at, one in enumerate(order):
            for by, other in enumerate(order):
                for function in (compare_growth, compare_walks):
                    self.assertEqual(function(one, other), (at > by) - (at < by))

    def test_growths_that_are_close(self):
        near = [limits.marked((gap,)) for gap in (12, 15, 18, 19)]
        for at, one in enumerate(near):
            for by, other in enumerate(near):
                self.assertEqual(compare_growth(one, other), (at > by) - (at < by))
        self.assertEqual(compare_growth(near[-1], plain.FULL_THREE), -1)
        for many in (5, 12, 31):
            longer = plain.ring(many + 1)[1] + ((0, 0, 1),)
            shorter = plain.ring(many)[1] + ((0, 0, 1),)
            one, other = (many + 1, tuple(sorted(longer))), (many, tuple(sorted(shorter)))
            self.assertEqual(compare_walks(one, other), -1)
            self.assertEqual(compare_growth(other, one), 1)


if __name__ == "__main__":
    unittest.main()
