"""Points 13 and 14: stretches, splits, steps and amalgams of matrices."""

import unittest
from random import Random

from shiftcore.errors import BadMatrix, BadSplit, BadState, NotAlive
from shiftcore.matrices import traces
from shiftcore.moves import amalgamated, same_one_way, shows_step, split, stretched
from tests import matrix_ways as ways
from tests.cases import WithLimits
from tests.matrix_ways import GOLDEN, HEAVY, MANY, ONE, TRIANGLE, TWO, ZERO, ring_matrix

SMALL = [matrix for matrix in MANY if max(map(max, matrix)) <= 3]
ALIVE = [matrix for matrix in MANY if ways.is_alive(matrix)]
DEAD = [matrix for matrix in MANY if not ways.is_alive(matrix)]
SIX = [matrix for matrix in MANY if len(matrix) == 6]


def product(left, right):
    """Return the product of two tuples of rows that are not empty."""
    return tuple(tuple(sum(row[k] * right[k][by] for k in range(len(right))) for by in range(len(right[0])))
                 for row in left)


def amalgams(rows):
    """Return all matrices that are left, whichever of two states with equal columns are put together first."""
    many = len(rows)
    pairs = [(one, other) for other in range(many) for one in range(other)
             if all(row[one] == row[other] for row in rows)]
    if not pairs:
        return {rows}
    found = set()
    for one, other in pairs:
        joined = tuple(a + b for a, b in zip(rows[one], rows[other]))
        fresh = [joined if at == one else row for at, row in enumerate(rows)]
        del fresh[other]
        found |= amalgams(tuple(row[:other] + row[other + 1:] for row in fresh))
    return found


class Stretches(WithLimits):
    def test_edge_by_edge(self):
        for matrix in MANY:
            for start, end in set(ways.edges_of(matrix)):
                if len(matrix) < 6:
                    found = stretched(matrix, start, end)
                    self.assertEqual(found, ways.stretched(matrix, start, end))
                    self.assertEqual(len(ways.edges_of(found)), len(ways.edges_of(matrix)) + 1)

    def test_stretches(self):
        self.assertEqual(stretched(ONE, 0, 0), ring_matrix(2))
        self.assertEqual(stretched(((0, 1), (0, 0)), 0, 1), ((0, 0, 1), (0, 0, 0), (0, 1, 0)))
        self.assertEqual(stretched(((0, 20), (3, 0)), 1, 0), ((0, 20, 0), (2, 0, 1), (1, 0, 0)))

    def test_no_such_edge(self):
        for matrix in MANY:
            for start in range(len(matrix)):
                for end in range(len(matrix)):
                    if matrix[start][end] == 0:
                        self.assertRaises(BadState, stretched, matrix, start, end)
        self.assertRaises(BadState, stretched, ZERO, 0, 0)

    def test_too_many(self):
        for matrix in SIX:
            for start, end in set(ways.edges_of(matrix)):
                self.check_too_many(6, stretched, matrix, start, end)
            for state in (6, -1, True, None):
                self.assertRaises(BadState, stretched, matrix, state, 0)
                self.assertRaises(BadState, stretched, matrix, 0, state)
        self.assertRaises(BadState, stretched, ring_matrix(6), 0, 0)
        self.assertEqual(len(stretched(ring_matrix(5), 0, 1)), 6)


class Splits(WithLimits):
    def test_edge_by_edge(self):
        for matrix in SMALL:
            for state, row in enumerate(matrix):
                for first in ways.splits(row)[:12]:
                    if len(matrix) < 6:
                        found = split(matrix, state, first)
                        self.assertEqual(found, ways.split(matrix, state, first))
                        self.assertEqual(traces(found, 12), traces(matrix, 12))

    def test_allowed_rows(self):
        for row in [(0, 0), (1, 0), (0, 2), (2, 1), (3, 3)]:
            matrix = (row, (1, 1))
            allowed = ways.splits(row)
            for left in range(-1, 5):
                for right in range(-1, 5):
                    if (left, right) in allowed:
                        self.assertEqual(split(matrix, 0, (left, right))[0][:2], (left, right))
                    else:
                        self.assertRaises(BadSplit, split, matrix, 0, (left, right))

    def test_splits(self):
        self.assertEqual(split(((20,),), 0, (19,)), ((19, 19), (1, 1)))
        self.assertEqual(split(((20,),), 0, (1,)), ((1, 1), (19, 19)))
        self.assertEqual(split(((1, 2), (3, 4)), 1, (0, 4)), ((1, 2, 2), (0, 4, 4), (3, 0, 0)))
        self.assertEqual(split(((1, 2), (3, 4)), 0, (1, 0)), ((1, 0, 1), (3, 4, 3), (0, 2, 0)))
        for first in [(20,), (0,), (21,), (-1,)]:
            self.assertRaises(BadSplit, split, ((20,),), 0, first)
        self.assertRaises(BadSplit, split, ONE, 0, (1,))
        self.assertRaises(BadSplit, split, ZERO, 0, (0,))

    def test_too_many(self):
        for matrix in SIX:
            for state, row in enumerate(matrix):
                for first in ways.splits(row)[:3] if max(row) <= 3 else [(1, 0, 0, 0, 0, 0)]:
                    self.check_too_many(6, split, matrix, state, first)
                self.assertRaises(BadSplit, split, matrix, state, row)
                self.assertRaises(BadSplit, split, matrix, state, (0,) * 6)
            self.assertRaises(BadState, split, matrix, 6, (0,) * 6)
        self.assertEqual(len(split(((2,) * 5,) * 5, 4, (1,) * 5)), 6)


class Steps(unittest.TestCase):
    def test_splits_are_steps(self):
        for matrix in SMALL:
            for state, row in enumerate(matrix):
                for first in ways.splits(row)[:4]:
                    if len(matrix) < 6:
                        other = split(matrix, state, first)
                        size = len(matrix)
                        left = tuple(tuple(int(by == at or (by == size and at == state)) for by in range(size + 1))
                                     for at in range(size))
                        right = tuple(row[:size] for row in other)
                        self.assertIs(shows_step(matrix, other, left, right), True)
                        self.assertIs(shows_step(other, matrix, right, left), True)
                        self.assertIs(shows_step(other, matrix, left, right), False)

    def test_by_products(self):
        rng = Random(13)
        for _ in range(300):
            height, width = rng.randint(1, 3), rng.randint(1, 3)
            left = tuple(tuple(rng.randrange(3) for _ in range(width)) for _ in range(height))
            right = tuple(tuple(rng.randrange(3) for _ in range(height)) for _ in range(width))
            one, other = product(left, right), product(right, left)
            self.assertIs(shows_step(one, other, left, right), True)
            for matrix in (TWO, GOLDEN, TRIANGLE, ring_matrix(3)):
                self.assertIs(shows_step(matrix, other, left, right), matrix == one)
                self.assertIs(shows_step(one, matrix, left, right), matrix == other)
            self.assertIs(shows_step(one, other, right, left), (product(right, left), product(left, right))
                          == (one, other) and height == width)

    def test_bent_tables(self):
        left, right = ((1, 1),), ((1,), (1,))
        one, other = TWO, ((1, 1), (1, 1))
        self.assertIs(shows_step(one, other, left, right), True)
        bent = [[1, 1], ([1, 1],), [(1, 1)], ((1,),), ((1, 1, 1),), ((1, 1), (1, 1)), ((1, 1), (0, 0)), ((1, 1, 0),),
                ((True, 1),), ((1, True),), (("1", 1),), ((None, 1),), ((1, (1,)),), ((1, 0),), ((1, 2),), (), ((),),
                (1, 1), ("11",), ({0: 1, 1: 1},), "11", {0: (1, 1)}, None, ((10 ** 40, 1),)]
        for value in bent:
            self.assertIs(shows_step(one, other, value, right), False)
            self.assertIs(shows_step(other, one, right, value), False)
        for value in [((1,), (True,)), ((1,), (False,)), ((1,),), ((1,), (1,), (0,)), ((1, 0), (1, 0)), right[:1] * 3]:
            self.assertIs(shows_step(one, other, left, value), False)

    def test_rows_of_unlike_lengths(self):
        one, left, right = ((2, 1), (1, 1)), ((1, 1), (1, 0)), ((1, 1), (1, 0))
        self.assertIs(shows_step(one, one, left, right), True)
        for value in [((1, 1), (1, 0, 5)), ((1, 1, 5), (1, 0)), ((1, 1, 0), (1, 0, 0)), ((1, 1), (1,)),
                      ((1, 1), (1, 0), ())]:
            self.assertIs(shows_step(one, one, value, right), False)
            self.assertIs(shows_step(one, one, left, value), False)

    def test_integers_from_0_on(self):
        self.assertIs(shows_step(ONE, ONE, ((-1,),), ((-1,),)), False)
        self.assertIs(shows_step(((1, 0), (0, 1)), ((1, 0), (0, 1)), ((1, 1), (0, 1)), ((1, -1), (0, 1))), False)
        self.assertIs(shows_step(ZERO, ZERO, ((False,),), ((0,),)), False)
        self.assertIs(shows_step(ZERO, ZERO, ((0,),), ((False,),)), False)
        self.assertIs(shows_step(ZERO, ZERO, ((10 ** 40,),), ((0,),)), True)
        self.assertIs(shows_step(ONE, ONE, ((1,),), ((True,),)), False)

    def test_errors(self):
        for value in (None, ((1,),), ((1, 1),)):
            self.assertRaises(BadMatrix, shows_step, ((21,),), TWO, value, value)
            self.assertRaises(BadMatrix, shows_step, TWO, ((21,),), value, value)


class Amalgams(unittest.TestCase):
    def test_smallest_of_any_order(self):
        for matrix in ALIVE:
            found = amalgams(matrix)
            smallest = {min(ways.all_names(other)) for other in found}
            self.assertEqual({amalgamated(matrix)}, smallest)

    def test_chains_of_splits(self):
        rng = Random(14)
        for matrix in ALIVE:
            for _ in range(2):
                other = ways.chain(rng, matrix, ["names", "split"])
                self.assertEqual(amalgamated(other), amalgamated(matrix))
                self.assertIs(same_one_way(matrix, other), True)
                self.assertEqual(traces(matrix, 15), traces(other, 15))

    def test_same_one_way(self):
        for one in ALIVE[::3]:
            for other in ALIVE[::2]:
                self.assertIs(same_one_way(one, other), amalgamated(one) == amalgamated(other))
        # A stretch keeps the flow only, and so does a split of columns.
        self.assertIs(same_one_way(TWO, GOLDEN), False)
        self.assertIs(same_one_way(((1, 1, 1), (1, 1, 1), (1, 0, 0)), ((1, 1, 1), (1, 1, 0), (1, 1, 0))), False)

    def test_amalgams(self):
        self.assertEqual(amalgamated(HEAVY), ((120,),))
        self.assertEqual(amalgamated(ONE), ONE)
        self.assertEqual(amalgamated(GOLDEN), ((0, 1), (1, 1)))
        self.assertEqual(amalgamated(((1, 1, 0, 0), (0, 0, 1, 1), (1, 1, 1, 0), (0, 0, 0, 1))), ((1, 0), (1, 2)))
        self.assertEqual(amalgamated(ring_matrix(3, 2)), ((0, 0, 1), (1, 0, 0), (0, 1, 0)))
        self.assertEqual(amalgamated(((2, 1), (1, 0))), ((0, 1), (1, 2)))
        # Once two states are one, two other columns become equal.
        self.assertEqual(amalgamated(((0, 0, 1), (1, 1, 0), (1, 1, 1))), ((2,),))

    def test_not_alive(self):
        for matrix in DEAD:
            self.assertRaises(NotAlive, amalgamated, matrix)
            for pair in [(matrix, TWO), (TWO, matrix), (matrix, matrix)]:
                self.assertRaises(NotAlive, same_one_way, *pair)
            self.assertRaises(BadMatrix, same_one_way, matrix, ((21,),))
            self.assertRaises(BadMatrix, same_one_way, (), matrix)
        for matrix in (ZERO, ((0, 1), (0, 1)), ((0, 0), (1, 1)), ((0, 1), (0, 0))):
            self.assertRaises(NotAlive, amalgamated, matrix)
        self.assertEqual(amalgamated(TRIANGLE), ((1, 0), (1, 1)))


if __name__ == "__main__":
    unittest.main()
