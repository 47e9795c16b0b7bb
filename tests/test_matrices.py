"""Point 12: matrices, the groups and signs of their cycles, their flow, closed walks and polynomials."""

import unittest
from random import Random

from shiftcore.errors import BadLength, BadMatrix, NotWhole
from shiftcore.matrices import cycle_group, cycle_sign, edge_polynomial, is_ring, same_flow, traces
from tests import matrix_ways as ways
from tests.matrix_ways import GOLDEN, HEAVY, LIKE_RING, MANY, ONE, TRIANGLE, TWO, ZERO, ring_matrix

WHOLE = [matrix for matrix in MANY if ways.is_whole(matrix)]
APART = [matrix for matrix in MANY if not ways.is_whole(matrix)]
GOOD = [matrix for matrix in WHOLE if len(matrix) <= 5 and max(map(max, matrix)) <= 5]


def closed_walks(matrix, length):
    """Return the number of closed walks, counted by going on edge by edge."""
    total = 0
    for start in range(len(matrix)):
        here = [start]
        for _ in range(length):
            here = [by for at in here for by, entry in enumerate(matrix[at]) for _ in range(entry)]
        total += here.count(start)
    return total


def walk_counts(matrix, length):
    """Return the numbers of closed walks of 1, 2, .., length edges, by numbers of walks to all states."""
    totals = [0] * length
    states = range(len(matrix))
    for start in states:
        row = [int(at == start) for at in states]
        for at in range(length):
            row = [sum(row[by] * matrix[by][end] for by in states) for end in states]
            totals[at] += row[start]
    return tuple(totals)


class Rings(unittest.TestCase):
    def test_is_ring(self):
        for matrix in MANY:
            is_one = ways.is_whole(matrix) and all(sorted(row) == [0] * (len(row) - 1) + [1] for row in matrix)
            self.assertIs(is_ring(matrix), is_one)

    def test_rings(self):
        for many in range(1, 7):
            self.assertIs(is_ring(ring_matrix(many)), True)
            self.assertIs(is_ring(ring_matrix(many, 0)), many == 1)
        for matrix in (ring_matrix(6, 5), ((0, 0, 1), (1, 0, 0), (0, 1, 0))):
            self.assertIs(is_ring(matrix), True)
        for matrix in (ZERO, TWO, ring_matrix(6, 2), ((0, 1), (0, 1)), ((0, 1), (2, 0)), GOLDEN, ((0, 1), (0, 0))):
            self.assertIs(is_ring(matrix), False)


class Groups(unittest.TestCase):
    def test_group_by_minors(self):
        for matrix in MANY:
            factors, rank = cycle_group(matrix)
            found = ways.divisors(matrix)
            steps = [found[k] // found[k - 1] for k in range(1, len(found))]
            self.assertEqual(factors, tuple(step for step in steps if step > 1))
            self.assertEqual(rank, len(matrix) - len(steps))
            self.assertTrue(all(other % one == 0 for one, other in zip(factors, factors[1:])))

    def test_groups(self):
        self.assertEqual(cycle_group(ZERO), ((), 0))
        self.assertEqual(cycle_group(ONE), ((), 1))
        self.assertEqual(cycle_group(TWO), ((), 0))
        self.assertEqual(cycle_group(((20,),)), ((19,), 0))
        self.assertEqual(cycle_group(((0, 0), (0, 0))), ((), 0))
        self.assertEqual(cycle_group(ring_matrix(5, 0)), ((), 5))
        self.assertEqual(cycle_group(ring_matrix(4, 2)), ((), 2))
        self.assertEqual(cycle_group(ring_matrix(6)), ((), 1))
        self.assertEqual(cycle_group(((3, 0), (0, 3))), ((2, 2), 0))
        self.assertEqual(cycle_group(((3, 0), (0, 4))), ((6,), 0))
        self.assertEqual(cycle_group(((5, 0, 0), (0, 7, 0), (0, 0, 1))), ((2, 12), 1))
        self.assertEqual(cycle_group(HEAVY), ((119,), 0))
        self.assertEqual(cycle_group(LIKE_RING), ((), 1))
        self.assertEqual(cycle_group(((1, 4), (4, 1))), ((4, 4), 0))
        self.assertEqual(cycle_group(((7, 0, 0), (0, 11, 0), (0, 0, 16))), ((30, 30), 0))

    def test_sign_by_the_determinant(self):
        signs = set()
        for matrix in MANY:
            worth = ways.determinant(ways.less(matrix))
            self.assertEqual(cycle_sign(matrix), (worth > 0) - (worth < 0))
            self.assertNotIsInstance(cycle_sign(matrix), bool)
            self.assertEqual(cycle_sign(matrix) == 0, cycle_group(matrix)[1] > 0)
            signs.add(cycle_sign(matrix))
        self.assertEqual(signs, {-1, 0, 1})

    def test_signs(self):
        found = [cycle_sign(matrix) for matrix in (ZERO, ONE, TWO, ((3, 0), (0, 3)), GOLDEN, ring_matrix(6), TRIANGLE)]
        self.assertEqual(found, [1, 0, -1, 1, -1, 0, 0])


class Flow(unittest.TestCase):
    def test_moves_keep_the_flow(self):
        rng = Random(12)
        for matrix in GOOD:
            for _ in range(3):
                other = ways.chain(rng, matrix, ["names", "stretch", "split"])
                self.assertIs(same_flow(matrix, other), True)
                self.assertIs(same_flow(other, matrix), True)
                self.assertEqual(is_ring(matrix), is_ring(other))

    def test_by_groups_and_signs(self):
        for one in WHOLE:
            for other in WHOLE:
                if is_ring(one) or is_ring(other):
                    self.assertIs(same_flow(one, other), is_ring(one) and is_ring(other))
                else:
                    worth = [ways.determinant(ways.less(matrix)) for matrix in (one, other)]
                    is_one = worth[0] == worth[1] and cycle_group(one) == cycle_group(other)
                    self.assertIs(same_flow(one, other), is_one)

    def test_flows(self):
        self.assertIs(same_flow(ONE, ring_matrix(6)), True)
        self.assertIs(same_flow(ONE, ONE), True)
        self.assertIs(same_flow(ONE, LIKE_RING), False)
        self.assertIs(same_flow(LIKE_RING, ONE), False)
        self.assertEqual([cycle_group(ONE), cycle_sign(ONE)], [cycle_group(LIKE_RING), cycle_sign(LIKE_RING)])
        self.assertIs(same_flow(TWO, ((3,),)), False)
        self.assertIs(same_flow(TWO, GOLDEN), True)
        # The same group, but other signs.
        twist = ((1, 1, 0, 0), (1, 1, 1, 0), (0, 1, 1, 1), (0, 0, 1, 1))
        self.assertEqual([cycle_group(twist), cycle_sign(twist)], [((), 0), 1])
        self.assertEqual([cycle_group(TWO), cycle_sign(TWO)], [((), 0), -1])
        self.assertIs(same_flow(TWO, twist), False)
        # The same sign, and groups with the same number of members.
        one, other = ((1, 2), (2, 1)), ((5,),)
        self.assertEqual([cycle_group(one), cycle_group(other)], [((2, 2), 0), ((4,), 0)])
        self.assertEqual([cycle_sign(one), cycle_sign(other)], [-1, -1])
        self.assertIs(same_flow(one, other), False)

    def test_not_whole(self):
        for matrix in APART:
            for pair in [(matrix, TWO), (TWO, matrix), (matrix, matrix), (matrix, ONE), (ONE, matrix)]:
                with self.assertRaises(NotWhole):
                    same_flow(*pair)
        for matrix in (ZERO, TRIANGLE, ((0, 1), (0, 1)), ring_matrix(2, 0)):
            self.assertIn(matrix, APART + [((0, 1), (0, 1)), ring_matrix(2, 0)])
            self.assertRaises(NotWhole, same_flow, matrix, TWO)
        for matrix in (ZERO, TRIANGLE, TWO):
            self.assertRaises(BadMatrix, same_flow, matrix, ((21,),))
            self.assertRaises(BadMatrix, same_flow, ((0, 1),), matrix)


class Walks(unittest.TestCase):
    def test_traces_by_following_edges(self):
        for matrix in MANY:
            many = 4 if max(map(sum, matrix)) <= 6 else 2
            self.assertEqual(traces(matrix, many), tuple(closed_walks(matrix, n) for n in range(1, many + 1)))

    def test_long_traces(self):
        for matrix in MANY:
            for length in (0, 1, 7, 40):
                self.assertEqual(traces(matrix, length), walk_counts(matrix, length))

    def test_traces(self):
        self.assertEqual(traces(GOLDEN, 0), ())
        self.assertEqual(traces(ZERO, 40), (0,) * 40)
        self.assertEqual(traces(HEAVY, 40)[-1], 120 ** 40)
        self.assertEqual(traces(((20,),), 3), (20, 400, 8000))
        self.assertEqual(traces(ring_matrix(3), 7), (0, 0, 3, 0, 0, 3, 0))

    def test_wrong_lengths(self):
        for length in (-1, 41, True, None, "1", (1,)):
            self.assertRaises(BadLength, traces, GOLDEN, length)
            self.assertRaises(BadMatrix, traces, ((21,),), length)

    def test_polynomial_by_determinants(self):
        for matrix in MANY:
            found = edge_polynomial(matrix)
            self.assertTrue(1 <= len(found) <= len(matrix) + 1 and found[-1] != 0)
            for t in range(-4, 5):
                worth = sum(value * t ** at for at, value in enumerate(found))
                self.assertEqual(worth, ways.determinant(ways.less(matrix, t)))

    def test_polynomials(self):
        self.assertEqual(edge_polynomial(ZERO), (1,))
        self.assertEqual(edge_polynomial(((0, 1), (0, 0))), (1,))
        self.assertEqual(edge_polynomial(((20,),)), (1, -20))
        self.assertEqual(edge_polynomial(ring_matrix(6)), (1, 0, 0, 0, 0, 0, -1))
        self.assertEqual(edge_polynomial(HEAVY), (1, -120))
        self.assertEqual(edge_polynomial(((5, 0), (0, 7))), (1, -12, 35))


if __name__ == "__main__":
    unittest.main()
