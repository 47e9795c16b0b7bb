"""Points 9 and 10: numbers of words and of periodic sequences, zeta functions, and power sums."""

import unittest
from fractions import Fraction
from random import Random

from shiftcore.counting import count_orbits, count_periodic, count_words, power_sums, zeta
from shiftcore.errors import BadLength, BadPolynomial, BadWeb
from shiftcore.readers import reader
from shiftcore.webs import words
from tests import limits, plain
from tests.cases import WithLimits

SMALL = plain.SPECIAL[:-1] + plain.sparse_webs(51, 60, 3, 2, 75) + plain.sparse_webs(52, 60, 4, 3, 45)


def follow(web, states, label):
    """Return the ends of the edges of the essential web with a label that start in a set."""
    return frozenset(end for start, end, mark in plain.core(web)[1] if start in states and mark == label)


def plain_counts(web, most):
    """Return the numbers of words of 0, 1, .., most labels, counted by the sets of their ends."""
    states = frozenset(plain.core(web)[0])
    here = {states: 1} if states else {}
    found = []
    for _ in range(most + 1):
        found.append(sum(here.values()))
        fresh = {}
        for ends, many in here.items():
            for label in range(4):
                there = follow(web, ends, label)
                if there:
                    fresh[there] = fresh.get(there, 0) + many
        here = fresh
    return found


def is_periodic(web, word):
    """Return whether a word again and again is a sequence: more rounds than states come twice to a state."""
    return plain.is_read(web, word * (web[0] + 1))


def plain_orbits(web, labels, length):
    """Return the number of words, up to turning, that are no repetition and can be read again and again."""
    found = 0
    for word in plain.all_words(labels, length):
        turned = [word[k:] + word[:k] for k in range(length)]
        if word == min(turned) and turned.count(word) == 1 and is_periodic(web, word):
            found += 1
    return found


def closed_states(rows):
    """Return the states of a table that lie on closed walks."""
    found = []
    for state in range(len(rows)):
        here, met = {state}, set()
        for _ in rows:
            here = {k for at in here for k in rows[at] if k is not None}
            met |= here
        if state in met:
            found.append(state)
    return found


def has_ring(moves):
    """Return whether a partial map, a tuple of states or None, takes some state back to itself after some rounds."""
    here = {k for k in moves if k is not None}
    for _ in moves:
        here = {moves[k] for k in here if moves[k] is not None}
    return bool(here)


def mapped_counts(web, most):
    """Return the numbers of sequences with the periods 1, .., most, by counting the maps that words make of states."""
    rows = reader(web)
    states = closed_states(rows)
    names = {state: at for at, state in enumerate(states)}
    inner = [[names.get(there) for there in rows[state]] for state in states]
    maps = {tuple(range(len(states))): 1}
    found = []
    for _ in range(most):
        fresh = {}
        for moves, many in maps.items():
            for label in range(4):
                told = tuple(None if k is None else inner[k][label] for k in moves)
                fresh[told] = fresh.get(told, 0) + many
        maps = fresh
        found.append(sum(many for moves, many in maps.items() if has_ring(moves)))
    return found


def series_of(top, bottom, most):
    """Return the coefficients 0 to most of the power series top / bottom."""
    found = []
    for n in range(most + 1):
        value = Fraction(top[n] if n < len(top) else 0)
        value -= sum(bottom[k] * found[n - k] for k in range(1, min(n, len(bottom) - 1) + 1))
        found.append(value / bottom[0])
    return found


def exponential(sums):
    """Return the coefficients of the exponential of the sum of p(n) / n times the n-th power, from the definition."""
    most = len(sums)
    series = [Fraction(0)] + [Fraction(value, n + 1) for n, value in enumerate(sums)]
    total = [Fraction(1)] + [Fraction(0)] * most
    power = list(total)
    for k in range(1, most + 1):
        power = [sum(power[j] * series[n - j] for j in range(n + 1)) / k for n in range(most + 1)]
        total = [one + other for one, other in zip(total, power)]
    return total


def factor_degree(one, other):
    """Return the degree of the greatest common factor of two polynomials, by division with fractions."""
    left, right = [Fraction(k) for k in one], [Fraction(k) for k in other]
    while right:
        while len(left) >= len(right):
            scale, shift = left[-1] / right[-1], len(left) - len(right)
            left = [k - scale * (right[at - shift] if at >= shift else 0) for at, k in enumerate(left)]
            while left and left[-1] == 0:
                left.pop()
        left, right = right, left
    return len(left) - 1


class Words(WithLimits):
    def test_by_all_words(self):
        for web in SMALL:
            for length in range(5):
                self.assertEqual(count_words(web, length), len(plain.core_words(web, length)))

    def test_by_sets_of_ends(self):
        for web in SMALL[::3] + [limits.SETS_200, limits.READER_41]:
            expected = plain_counts(web, 200)
            for length in (0, 1, 2, 7, 60, 199, 200):
                self.assertEqual(count_words(web, length), expected[length])

    def test_numbers(self):
        self.assertEqual([count_words(plain.GOLDEN, n) for n in range(7)], [1, 2, 3, 5, 8, 13, 21])
        self.assertEqual(count_words(plain.FULL_FOUR, 200), 4 ** 200)
        self.assertEqual(count_words(plain.POINT, 200), 1)
        self.assertEqual(count_words(plain.TWO_LOOPS, 200), 200 + 1 + 1)
        for web in (plain.EMPTY, (2, ()), plain.DEAD):
            self.assertEqual([count_words(web, n) for n in (0, 1, 60, 200)], [0] * 4)
        self.assertEqual(count_words(limits.SETS_200, 6), len(words(limits.SETS_200, 6)))

    def test_too_many(self):
        self.check_too_many(200, count_words, limits.SETS_201, 3)
        self.check_too_many(200, count_words, limits.WHOLE_SETS_201, 0)
        for value in (-1, 201, True, None):
            with self.assertRaises(BadLength):
                count_words(limits.SETS_201, value)


class Periodic(WithLimits):
    def test_by_all_words(self):
        for web in SMALL:
            marks = 1 + max([label for _, _, label in web[1]], default=0)
            for length in range(1, {1: 12, 2: 6, 3: 4, 4: 4}[marks] + 1):
                expected = sum(is_periodic(web, word) for word in plain.all_words(marks, length))
                self.assertEqual(self.counted(count_periodic, web, length), expected)
                self.assertEqual(self.counted(count_orbits, web, length), plain_orbits(web, marks, length))

    def counted(self, function, web, length):
        """Return the count, but check that it is TooMany where it must be and return the expected count there."""
        if len(closed_states(reader(web))) <= 6:
            return function(web, length)
        self.check_too_many(6, function, web, length)
        marks = 1 + max(label for _, _, label in web[1])
        if function is count_orbits:
            return plain_orbits(web, marks, length)
        return sum(is_periodic(web, word) for word in plain.all_words(marks, length))

    def test_by_maps(self):
        for web in SMALL:
            if len(closed_states(reader(web))) <= 6:
                expected = mapped_counts(web, 60)
                for length in (1, 2, 3, 4, 6, 12, 13, 30, 59, 60):
                    self.assertEqual(count_periodic(web, length), expected[length - 1])

    def test_orbits_by_least_periods(self):
        for web in SMALL[::2]:
            if len(closed_states(reader(web))) <= 6:
                for length in (1, 2, 12, 30, 49, 60):
                    divisors = [k for k in range(1, length + 1) if length % k == 0]
                    total = sum(k * count_orbits(web, k) for k in divisors)
                    self.assertEqual(total, count_periodic(web, length))

    def test_numbers(self):
        self.assertEqual([count_periodic(plain.EVEN, n) for n in (1, 2, 3, 4, 5)], [2, 2, 5, 6, 12])
        self.assertEqual([count_orbits(plain.FULL, n) for n in range(1, 9)], [2, 1, 2, 3, 6, 9, 18, 30])
        self.assertEqual(count_periodic(plain.FULL_FOUR, 60), 4 ** 60)
        self.assertEqual([count_periodic(plain.SWAP, n) for n in (1, 2, 3, 60)], [0, 2, 0, 2])
        self.assertEqual([count_orbits(plain.SWAP, n) for n in (1, 2, 3, 60)], [0, 1, 0, 0])
        self.assertEqual([count_periodic(plain.APART, n) for n in (1, 2, 60)], [2, 2, 2])
        self.assertEqual([count_periodic(plain.TWO_LOOPS, n) for n in (1, 2, 60)], [1, 1, 1])
        for web in (plain.EMPTY, (2, ()), plain.DEAD):
            for function in (count_periodic, count_orbits):
                self.assertEqual([function(web, n) for n in (1, 2, 60)], [0, 0, 0])

    def test_same_for_all_webs_with_the_shift(self):
        for web in (plain.GOLDEN, plain.EVEN, plain.FULL, plain.CHARGED, plain.TAILS):
            for other in plain.same_shift_webs(web):
                for length in (1, 2, 5, 8):
                    self.assertEqual(count_periodic(other, length), count_periodic(web, length))
                    self.assertEqual(count_orbits(other, length), count_orbits(web, length))
                self.assertEqual(zeta(other), zeta(web))

    def test_too_many(self):
        six, seven = plain.ring(6, 0, 1), plain.ring(7, 0, 1)
        self.assertEqual(len(closed_states(reader(six))), 6)
        self.assertEqual(len(closed_states(reader(seven))), 7)
        self.assertEqual([count_periodic(six, n) for n in (1, 3, 6, 12, 60)], [0, 0, 6, 6, 6])
        self.assertEqual([count_orbits(six, n) for n in (1, 3, 6, 12, 60)], [0, 0, 1, 0, 0])
        self.assertEqual(zeta(six), ((1,), (1, 0, 0, 0, 0, 0, -1)))
        for function in (count_periodic, count_orbits):
            self.check_too_many(6, function, seven, 1)
            self.check_too_many(6, function, limits.SETS_200, 60)
            self.check_too_many(200, function, limits.SETS_201, 1)
            for value in (0, 61, True):
                with self.assertRaises(BadLength):
                    function(limits.SETS_201, value)
        self.check_too_many(6, zeta, seven)
        self.check_too_many(6, zeta, limits.SETS_200)
        self.check_too_many(200, zeta, limits.SETS_201)

    def test_only_states_on_closed_walks_count(self):
        # Its reader has more than 6 states, but only those of the two closed walks lie on closed walks.
        self.assertEqual(len(reader(plain.ring(6, 0, 1))), 11)
        both = (6, ((0, 1, 0), (1, 2, 1), (2, 0, 2), (3, 4, 0), (4, 5, 2), (5, 3, 1)))
        self.assertEqual([count_periodic(both, n) for n in (1, 2, 3, 6)], [0, 0, 6, 6])
        self.assertEqual(count_orbits(both, 3), 2)


class Zeta(WithLimits):
    def check_zeta(self, web):
        top, bottom = zeta(web)
        for poly in (top, bottom):
            self.assertEqual(poly[0], 1)
            self.assertNotEqual(poly[-1], 0)
            self.assertTrue(all(value.__class__ is int for value in poly))
        self.assertEqual(factor_degree(top, bottom), 0)
        sums = [count_periodic(web, n) for n in range(1, 13)]
        self.assertEqual(exponential(sums), series_of(top, bottom, 12))
        if len(top) <= 41 and len(bottom) <= 41:
            self.assertEqual(list(power_sums(top, bottom, 60)), mapped_counts(web, 60))

    def test_by_counts(self):
        for web in SMALL:
            if len(closed_states(reader(web))) <= 6:
                self.check_zeta(web)

    def test_values(self):
        for web in (plain.EMPTY, (2, ()), plain.DEAD):
            self.assertEqual(zeta(web), ((1,), (1,)))
        self.assertEqual(zeta(plain.POINT), ((1,), (1, -1)))
        self.assertEqual(zeta(plain.FULL_FOUR), ((1,), (1, -4)))
        self.assertEqual(zeta(plain.GOLDEN), ((1,), (1, -1, -1)))
        self.assertEqual(zeta(plain.APART), ((1,), (1, -2, 1)))
        self.assertEqual(zeta(plain.SWAP), ((1,), (1, 0, -1)))
        self.assertEqual(zeta(plain.TWO_LOOPS), ((1,), (1, -1)))

    def test_common_factors_are_left_out(self):
        # The reader of the even shift has 3 states on closed walks, so that the plain quotient is of a higher degree.
        self.assertEqual(len(closed_states(reader(plain.EVEN))), 3)
        self.assertEqual(zeta(plain.EVEN), ((1, 1), (1, -1, -1)))
        # An even number of labels 0 or 2 between labels 1: the common factor has a last coefficient greater than 1.
        paired = (2, ((0, 0, 1), (0, 1, 0), (0, 1, 2), (1, 0, 0), (1, 0, 2)))
        self.assertEqual(zeta(paired), ((1, 2), (1, -1, -4)))
        self.check_zeta(paired)
        self.assertEqual(len(closed_states(reader(plain.CHARGED))), 5)
        self.assertEqual(zeta(plain.CHARGED), ((1, 0, -1), (1, 0, -2)))


class PowerSums(unittest.TestCase):
    def test_by_series(self):
        rng = Random(53)
        for most in (1, 3, 9, 1000000):
            for _ in range(12):
                polys = []
                for _ in range(2):
                    values = [rng.randint(-most, most) for _ in range(rng.randint(0, 6))]
                    polys.append((1, *values, rng.choice((-most, most))))
                sums = power_sums(*polys, 10)
                self.assertEqual(exponential(sums), series_of(*polys, 10))

    def test_values(self):
        self.assertEqual(power_sums((1, 1), (1, -1, -1), 5), (2, 2, 5, 6, 12))
        self.assertEqual(power_sums((1,), (1,), 3), (0, 0, 0))
        self.assertEqual(power_sums((1,), (1, -2), 4), (2, 4, 8, 16))
        self.assertEqual(power_sums((1, -2), (1,), 4), (-2, -4, -8, -16))
        self.assertEqual(power_sums((1, -1000000), (1,), 60)[-1], -10 ** 360)
        self.assertEqual(power_sums((1,), (1, 1), 0), ())
        self.assertEqual(len(power_sums((1,), (1, 1), 60)), 60)

    def test_forty_one_coefficients(self):
        high = (1,) + (0,) * 39 + (1000000,)
        sums = power_sums(high, (1,), 60)
        self.assertEqual([n + 1 for n, value in enumerate(sums) if value], [40])
        self.assertEqual(sums[39], 40 * 1000000)
        full = tuple([1] + [(-1) ** k * 1000000 for k in range(40)])
        self.assertEqual(exponential(power_sums(full, high, 20)), series_of(full, high, 20))
        self.assertEqual(power_sums(full, full, 60), (0,) * 60)

    def test_wrong_polynomials(self):
        for value in [(), (0,), (2,), (-1,), (1, 0), (True,), [1], (1, 1000001), (1, -1000001), (1, None),
                      (1,) * 42, (1,) + (0,) * 40 + (1,)]:
            with self.assertRaises(BadPolynomial):
                power_sums(value, (1,), 3)
            with self.assertRaises(BadPolynomial):
                power_sums((1,), value, 3)
            with self.assertRaises(BadPolynomial):
                power_sums((1,), value, -1)
        for value in (-1, 61, True, None):
            with self.assertRaises(BadLength):
                power_sums((1,), (1,), value)

    def test_web_comes_before_length(self):
        for function in (count_words, count_periodic, count_orbits):
            with self.assertRaises(BadWeb):
                function(None, None)


if __name__ == "__main__":
    unittest.main()
