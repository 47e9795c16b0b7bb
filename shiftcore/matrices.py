"""Matrices of numbers of edges: the group, the sign and the flow of their cycles, and closed walks (point 12)."""

from shiftcore.checks import check_length, check_matrix
from shiftcore.errors import NotWhole
from shiftcore.graphs import is_one_part
from shiftcore.squares import characteristic, diagonal_of, power_traces

LONGEST_WALK = 40


def is_ring(matrix):
    """Return whether a matrix is whole and every row has the sum 1."""
    check_matrix(matrix)
    return _is_whole(matrix) and all(sum(row) == 1 for row in matrix)


def _is_whole(matrix):
    """Return whether walks of at least one edge lead from every state to every state."""
    arrows = [(start, end) for start, row in enumerate(matrix) for end, entry in enumerate(row) if entry > 0]
    return is_one_part(len(matrix), arrows)


def cycle_group(matrix):
    """Return the factors and the rank of the rows of integers modulo the sums of rows of I - A."""
    check_matrix(matrix)
    less = [[int(at == by) - entry for by, entry in enumerate(row)] for at, row in enumerate(matrix)]
    diagonal = diagonal_of(less)
    return tuple([entry for entry in diagonal if entry > 1]), len(matrix) - len(diagonal)


def cycle_sign(matrix):
    """Return the sign of the determinant of I - A."""
    # The determinant of I - t A at t = 1.
    worth = sum(edge_polynomial(matrix))
    return (worth > 0) - (worth < 0)


def same_flow(one, other):
    """Return whether two whole matrices are connected by moves and new names."""
    check_matrix(one)
    check_matrix(other)
    if not _is_whole(one) or not _is_whole(other):
        raise NotWhole("no walk from some state to some state")
    if is_ring(one) or is_ring(other):
        return is_ring(one) and is_ring(other)
    return cycle_group(one) == cycle_group(other) and cycle_sign(one) == cycle_sign(other)


def traces(matrix, length):
    """Return the tuple of the numbers of closed walks of 1, 2, .., length edges."""
    check_matrix(matrix)
    check_length(length, 0, LONGEST_WALK)
    return tuple(power_traces(matrix, length))


def edge_polynomial(matrix):
    """Return the determinant of I - t A as a polynomial in t."""
    check_matrix(matrix)
    return characteristic(matrix)
