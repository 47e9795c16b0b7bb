"""Points 21 to 23: patterns of cycles of maps of an interval, the order of periods, and forced patterns."""

import unittest
from itertools import product

from shiftcore.errors import BadNumber, BadPattern
from shiftcore.forcing import forces, shown
from shiftcore.patterns import (comes_before, count_cycles, doubled, has_period, kind, mirror, pattern_web, stefan)
from tests import map_ways as ways
from tests.cases import WithLimits
from tests.map_ways import BANDS, DOUBLES, FIVE, LARGE, SMALL, all_patterns

ALL = SMALL + FIVE + LARGE + BANDS
NINE = all_patterns(3) + FIVE + LARGE[-4:]
# The webs of these have 19851 and 20019 closed walks of 6 edges; no pattern is nearer to 20000.
BELOW = (3, 7, 0, 8, 2, 6, 1, 4, 5)
BEYOND = (4, 5, 3, 8, 2, 7, 0, 6, 1)


class Patterns(WithLimits):
    def test_all_short_tuples(self):
        for many in range(1, 5):
            good = set(all_patterns(many))
            for entries in product(range(-1, many + 1), repeat=many):
                if entries in good:
                    self.assertEqual(mirror(mirror(entries)), entries)
                else:
                    self.assertRaises(BadPattern, mirror, entries)

    def test_wrong_patterns(self):
        for value in [(), (1,), (0, 1), (1, 1), (1, 2, 1), (2, 2, 0), (1, 0, 2), (1, 2, 3, 1), (1, 0, 3, 2), (False,),
                      (1, False), (True, 0), ("1", 0), (1, None), [1, 0], "10", 1,
                      (1, 2, 3, 4, 5, 6, 7, 8, 9, 0)]:
            for function in (pattern_web, mirror, doubled, kind):
                self.assertRaises(BadPattern, function, value)
            for function in (has_period, count_cycles, shown, forces):
                self.assertRaises(BadPattern, function, value, None)
        self.assertRaises(BadPattern, forces, (1, 0), None)
        self.assertEqual(mirror((1, 2, 3, 4, 5, 6, 7, 8, 0)), (8, 0, 1, 2, 3, 4, 5, 6, 7))

    def test_web_by_the_ends_of_pieces(self):
        for pattern in ALL:
            many, edges = pattern_web(pattern)
            self.assertEqual(many, len(pattern) - 1)
            expected = []
            for one, other in product(range(many), repeat=2):
                low, high = sorted((pattern[one], pattern[one + 1]))
                if low <= other and other + 1 <= high:
                    expected.append((one, other, 0))
            self.assertEqual(edges, tuple(expected))

    def test_webs(self):
        self.assertEqual(pattern_web((0,)), (0, ()))
        self.assertEqual(pattern_web((1, 0)), (1, ((0, 0, 0),)))
        self.assertEqual(pattern_web((2, 0, 1)), (2, ((0, 0, 0), (0, 1, 0), (1, 0, 0))))

    def test_mirror_by_the_map(self):
        for pattern in ALL:
            many = len(pattern)
            found = mirror(pattern)
            for k in range(many):
                self.assertEqual(found[many - 1 - k], many - 1 - pattern[k])
            self.assertEqual(kind(found), kind(pattern))
        self.assertEqual([mirror((0,)), mirror((1, 0)), mirror((1, 2, 0))], [(0,), (1, 0), (2, 0, 1)])
        self.assertEqual(mirror((1, 2, 3, 0)), (3, 0, 1, 2))
        self.assertEqual(mirror((2, 3, 1, 0)), (3, 2, 0, 1))

    def test_doubled_pair_by_pair(self):
        for pattern in SMALL:
            found = doubled(pattern)
            self.assertTrue(ways.is_cycle(found))
            self.assertEqual(len(found), 2 * len(pattern))
            for k, there in enumerate(pattern):
                pair = (found[2 * k], found[2 * k + 1])
                self.assertEqual(pair, (2 * there + 1, 2 * there) if k == 0 else (2 * there, 2 * there + 1))

    def test_doubles(self):
        self.assertEqual([doubled((0,)), doubled((1, 0)), doubled((1, 2, 0))], DOUBLES[:3])
        self.assertEqual(doubled(doubled((1, 0))), DOUBLES[3])
        self.assertEqual(doubled((3, 2, 0, 1)), (7, 6, 4, 5, 0, 1, 2, 3))
        for pattern in FIVE + LARGE:
            self.check_too_many(9, doubled, pattern)


class Order(unittest.TestCase):
    def test_by_the_words_of_the_order(self):
        front = [2 ** twos * odd for twos in range(6) for odd in range(3, 200, 2)]
        order = front + [2 ** twos for twos in reversed(range(10))]
        for at, one in enumerate(order[::3]):
            for by, other in enumerate(order[::5]):
                self.assertIs(comes_before(one, other), 3 * at < 5 * by)

    def test_all_small_numbers(self):
        numbers = sorted(range(1, 65), key=ways.order_key)
        for at, one in enumerate(numbers):
            for by, other in enumerate(numbers):
                self.assertIs(comes_before(one, other), at < by)
        self.assertEqual([numbers[0], numbers[1], numbers[-4:]], [3, 5, [8, 4, 2, 1]])

    def test_edges(self):
        for one, other in [(3, 1), (3, 5), (999999, 6), (3, 1000000), (1000000, 1), (524288, 262144), (2, 1), (6, 8),
                           (6, 10), (14, 12), (1000000, 524288), (62 * 2, 8)]:
            self.assertIs(comes_before(one, other), True)
            self.assertIs(comes_before(other, one), False)
        for number in (1, 2, 3, 1000000):
            self.assertIs(comes_before(number, number), False)

    def test_wrong_numbers(self):
        for value in (0, -1, 1000001, True, None, "3", (3,)):
            self.assertRaises(BadNumber, comes_before, value, 3)
            self.assertRaises(BadNumber, comes_before, 3, value)


class Periods(unittest.TestCase):
    def test_by_exact_points(self):
        for pattern in SMALL + FIVE + BANDS:
            for period in range(1, 8 if len(pattern) <= 5 else 7):
                self.assertIs(has_period(pattern, period), bool(ways.cycles(pattern, period)))
        for pattern in LARGE:
            for period in (1, 2, 3, 4):
                self.assertIs(has_period(pattern, period), bool(ways.cycles(pattern, period)))

    def test_periods_stand_behind_the_kind(self):
        for pattern in ALL:
            first = kind(pattern)
            self.assertNotIsInstance(first, bool)
            for period in range(1, 61):
                self.assertIs(has_period(pattern, period), ways.order_key(first) <= ways.order_key(period))

    def test_kind_by_exact_points(self):
        for pattern in SMALL + FIVE + DOUBLES:
            found = [period for period in range(1, 9 if len(pattern) != 6 else 6) if ways.cycles(pattern, period)]
            self.assertEqual(kind(pattern), min(found, key=ways.order_key))

    def test_kinds(self):
        self.assertEqual([kind((0,)), kind((1, 0)), kind((1, 2, 0)), kind((3, 2, 0, 1))], [1, 2, 3, 4])
        self.assertEqual([kind(pattern) for pattern in DOUBLES], [2, 4, 3, 8])
        self.assertEqual({kind(pattern) for pattern in all_patterns(4)}, {3, 4})
        self.assertEqual({kind(pattern) for pattern in all_patterns(6)}, {3, 6})
        self.assertEqual(kind(tuple(range(1, 9)) + (0,)), 3)

    def test_kind_of_doubles(self):
        for pattern in SMALL:
            # The middles of the pairs have the periods of the pattern, and the pairs themselves twice as many numbers.
            self.assertEqual(kind(doubled(pattern)), min(kind(pattern), 2 * len(pattern), key=ways.order_key))

    def test_odd_kinds(self):
        for many in (3, 5, 7):
            found = [pattern for pattern in all_patterns(many) if kind(pattern) == many]
            self.assertEqual(sorted(found), sorted([stefan(many), mirror(stefan(many))]))

    def test_stefan_by_its_steps(self):
        for many in (3, 5, 7, 9):
            pattern = stefan(many)
            here = middle = (many - 1) // 2
            for far in range(1, middle + 1):
                self.assertEqual(pattern[here], middle + far)
                self.assertEqual(pattern[middle + far], middle - far)
                here = middle - far
            self.assertEqual(pattern[here], middle)
            self.assertEqual([kind(pattern), kind(mirror(pattern))], [many, many])
        self.assertEqual([stefan(3), stefan(5)], [(1, 2, 0), (2, 4, 3, 1, 0)])
        self.assertEqual([stefan(7), stefan(9)], [(3, 6, 5, 4, 2, 1, 0), (4, 8, 7, 6, 5, 3, 2, 1, 0)])
        self.assertEqual([has_period(stefan(9), period) for period in (1, 2, 7, 9, 10, 11, 60)],
                         [True, True, False, True, True, True, True])

    def test_wrong_numbers(self):
        for value in (1, 2, 4, 6, 8, 10, 11, -3, 0, True, None, "3", (3,)):
            self.assertRaises(BadNumber, stefan, value)
        for value in (0, 61, -1, True, None, "1", (1,)):
            self.assertRaises(BadNumber, has_period, (1, 0), value)
            self.assertRaises(BadPattern, has_period, (0, 1), value)
        self.assertEqual([has_period((0,), 1), has_period((0,), 2), has_period((0,), 60)], [True, False, False])
        self.assertEqual([has_period((1, 0), period) for period in (1, 2, 4, 60)], [True, True, False, False])


class Shown(WithLimits):
    def check_shown(self, pattern, period):
        found = {ways.pattern_of(points) for points in ways.cycles(pattern, period)}
        self.assertEqual(shown(pattern, period), tuple(sorted(found)))

    def test_by_exact_points(self):
        for pattern in SMALL + BANDS:
            for period in range(1, 7):
                self.check_shown(pattern, period)
        for pattern in FIVE:
            for period in range(1, 6):
                self.check_shown(pattern, period)
        for pattern in LARGE:
            for period in range(1, 5):
                self.check_shown(pattern, period)
        for pattern in FIVE[:4] + LARGE[:2]:
            self.check_shown(pattern, 6)

    def test_patterns_shown(self):
        self.assertEqual([shown((0,), 1), shown((0,), 2), shown((0,), 6)], [((0,),), (), ()])
        self.assertEqual([shown((1, 0), period) for period in (1, 2, 3, 4)], [((0,),), ((1, 0),), (), ()])
        self.assertEqual([shown((3, 2, 0, 1), period) for period in (1, 2, 3, 4, 6)],
                         [((0,),), ((1, 0),), (), ((3, 2, 0, 1),), ()])
        self.assertEqual(shown(stefan(3), 5), ((2, 4, 3, 1, 0),))
        self.assertEqual(shown((1, 2, 3, 0), 4), ((1, 2, 3, 0), (2, 3, 1, 0)))
        self.assertIn(stefan(3), shown(doubled(stefan(3)), 3))
        self.assertIn(doubled(stefan(3)), shown(doubled(stefan(3)), 6))
        for pattern in SMALL + FIVE + all_patterns(6)[::10]:
            self.assertIn(pattern, shown(pattern, len(pattern)))
            for period in range(1, 7):
                self.assertEqual(bool(shown(pattern, period)), has_period(pattern, period))

    def test_mirrors(self):
        for pattern in FIVE[::3] + LARGE[::3]:
            for period in (3, 4):
                found = {mirror(other) for other in shown(pattern, period)}
                self.assertEqual(set(shown(mirror(pattern), period)), found)

    def test_forces_by_exact_points(self):
        for pattern in SMALL + FIVE + BANDS:
            for other in SMALL + FIVE[::2]:
                found = {ways.pattern_of(points) for points in ways.cycles(pattern, len(other))}
                self.assertIs(forces(pattern, other), other in found)

    def test_forced_patterns(self):
        for pattern in ALL + [BELOW, BEYOND]:
            self.assertIs(forces(pattern, pattern), True)
            self.assertIs(forces(pattern, (0,)), True)
            self.assertIs(forces(pattern, (1, 0)), len(pattern) > 1)
        self.assertIs(forces((0,), (1, 0)), False)
        self.assertIs(forces(stefan(3), stefan(5)), True)
        self.assertIs(forces(stefan(5), stefan(3)), False)
        self.assertIs(forces(stefan(3), mirror(stefan(3))), False)
        self.assertIs(forces((1, 2, 3, 0), (3, 2, 0, 1)), False)

    def test_too_many_numbers(self):
        for other in LARGE[8:] + [stefan(7), stefan(9)]:
            for pattern in [(0,), (1, 0), stefan(3), stefan(5), BEYOND]:
                self.check_too_many(6, forces, pattern, other)
            self.assertIs(forces(other, other), True)
        self.check_too_many(6, forces, stefan(7), mirror(stefan(7)))
        self.assertIs(forces(stefan(7), (1, 2, 3, 4, 5, 0)), False)

    def test_too_many_walks(self):
        six = (1, 2, 3, 4, 5, 0)
        for pattern, many in [(BELOW, 19851), (BEYOND, 20019)]:
            edges = [edge[:2] for edge in pattern_web(pattern)[1]]
            total = 0
            for start in range(8):
                row = [int(k == start) for k in range(8)]
                for _ in range(6):
                    row = [sum(row[one] for one, other in edges if other == k) for k in range(8)]
                total += row[start]
            self.assertEqual(total, many)
        for pattern in (BEYOND, mirror(BEYOND), (3, 5, 1, 7, 0, 8, 2, 6, 4)):
            self.check_too_many(20000, shown, pattern, 6)
            self.check_too_many(20000, forces, pattern, six)
            self.assertTrue(shown(pattern, 5))
            self.assertIs(forces(pattern, (1, 2, 3, 4, 0)), (1, 2, 3, 4, 0) in shown(pattern, 5))
        found = shown(BELOW, 6)
        self.assertEqual(forces(BELOW, six), six in found)
        self.assertTrue(all(ways.is_cycle(other) and len(other) == 6 for other in found))

    def test_wrong_numbers(self):
        for value in (0, 7, -1, True, None, "1", (1,)):
            for pattern in ((0,), (1, 2, 0), BEYOND):
                self.assertRaises(BadNumber, shown, pattern, value)
            self.assertRaises(BadPattern, forces, BEYOND, value)
            self.assertRaises(BadPattern, forces, value, stefan(7))


class Counts(WithLimits):
    def test_by_exact_points(self):
        for pattern in SMALL + FIVE:
            if not ways.has_band(pattern):
                for period in range(1, 7):
                    self.assertEqual(count_cycles(pattern, period), len(ways.cycles(pattern, period)))
        for pattern in LARGE:
            if not ways.has_band(pattern):
                for period in (1, 2, 3, 4):
                    self.assertEqual(count_cycles(pattern, period), len(ways.cycles(pattern, period)))

    def test_long_periods(self):
        for pattern in (stefan(3), (1, 2, 3, 0), stefan(5)):
            many, edges = pattern_web(pattern)
            found = {}
            for period in range(1, 61):
                total = 0
                for start in range(many):
                    row = [int(k == start) for k in range(many)]
                    for _ in range(period):
                        row = [sum(row[one] for one, other, _ in edges if other == k) for k in range(many)]
                    total += row[start]
                found[period] = count_cycles(pattern, period)
                self.assertEqual(total, sum(k * found[k] for k in found if period % k == 0))

    def test_counts(self):
        self.assertEqual([count_cycles((0,), period) for period in (1, 2, 3, 60)], [1, 0, 0, 0])
        self.assertEqual([count_cycles((1, 2, 3, 0), period) for period in (1, 2, 3, 4, 5, 6)], [1, 1, 2, 2, 4, 5])

    def test_bands(self):
        bands = [pattern for pattern in ALL if ways.has_band(pattern)]
        self.assertLessEqual(set(BANDS), set(bands))
        for pattern in ALL:
            for period in (1, 2, 60):
                if pattern in bands:
                    self.check_too_many(1, count_cycles, pattern, period)
                else:
                    self.assertGreaterEqual(count_cycles(pattern, period), 1 if period == 1 else 0)
        for pattern in bands:
            self.assertEqual(len(pattern) % 2, 0)
            for value in (0, 61, True, None, "1"):
                self.assertRaises(BadNumber, count_cycles, pattern, value)


if __name__ == "__main__":
    unittest.main()
