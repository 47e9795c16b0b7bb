"""Moves between matrices: stretches, splits, steps and amalgams (points 13 and 14)."""

from itertools import permutations

from shiftcore.checks import MOST_ROWS, check_matrix, check_state, is_between
from shiftcore.errors import BadSplit, BadState, NotAlive, TooMany


def stretched(matrix, start, end):
    """Return the matrix in which one edge is replaced by two edges in a row through a new last state."""
    check_matrix(matrix)
    check_state(start, len(matrix))
    check_state(end, len(matrix))
    if matrix[start][end] == 0:
        raise BadState("no such edge")
    _check_room(matrix)
    rows = [[*row, 0] for row in matrix]
    rows[start][end] -= 1
    rows[start][-1] = 1
    return _as_matrix([*rows, [int(at == end) for at in range(len(rows) + 1)]])


def split(matrix, state, first):
    """Return the matrix in which a state gets the row `first`, and a new last state the rest of its row."""
    check_matrix(matrix)
    check_state(state, len(matrix))
    _check_split(matrix[state], first)
    _check_room(matrix)
    rows = list(matrix)
    rows[state] = first
    rows.append([entry - kept for entry, kept in zip(matrix[state], first)])
    return _as_matrix([[*row, row[state]] for row in rows])


def _check_split(row, first):
    """Raise BadSplit unless `first` is a part of a row, neither all of it nor nothing."""
    if not isinstance(first, tuple) or len(first) != len(row):
        raise BadSplit("not as many entries as states")
    if not all(is_between(kept, 0, entry) for kept, entry in zip(first, row)):
        raise BadSplit("not integers from 0 to the entries of the row")
    if first == row or not any(first):
        raise BadSplit("nothing left on one side")


def _check_room(matrix):
    """Raise TooMany unless a matrix may get one more state."""
    if len(matrix) == MOST_ROWS:
        raise TooMany(MOST_ROWS)


def _as_matrix(rows):
    """Return rows as a tuple of tuples."""
    return tuple([tuple(row) for row in rows])


def shows_step(one, other, left, right):
    """Return whether left times right is the first matrix, and right times left the second one."""
    check_matrix(one)
    check_matrix(other)
    if not _is_table(left, len(one), len(other)) or not _is_table(right, len(other), len(one)):
        return False
    return _product(left, right) == one and _product(right, left) == other


def _is_table(value, height, width):
    """Return whether a value is a tuple of so many rows of so many integers from 0 on."""
    if not isinstance(value, tuple) or len(value) != height:
        return False
    for row in value:
        if not isinstance(row, tuple) or len(row) != width:
            return False
        if not all(isinstance(entry, int) and not isinstance(entry, bool) and entry >= 0 for entry in row):
            return False
    return True


def _product(left, right):
    """Return the product of two tables."""
    columns = list(zip(*right))
    return _as_matrix([[sum(one * other for one, other in zip(row, column)) for column in columns] for row in left])


def amalgamated(matrix):
    """Return the smallest matrix, by new names, of what is left when states with equal columns become one."""
    check_matrix(matrix)
    _check_alive(matrix)
    rows = matrix
    twins = _twins(rows)
    while twins is not None:
        rows = _taken_out(rows, *twins)
        twins = _twins(rows)
    return min([_renamed(rows, order) for order in permutations(range(len(rows)))])


def _check_alive(matrix):
    """Raise NotAlive if a row or a column is 0 everywhere."""
    if not all([any(row) for row in matrix]) or not all([any(column) for column in zip(*matrix)]):
        raise NotAlive("a row or a column of 0")


def _twins(rows):
    """Return the first two states with equal columns, or None."""
    columns = list(zip(*rows))
    for later, column in enumerate(columns):
        earlier = columns.index(column)
        if earlier != later:
            return earlier, later
    return None


def _taken_out(rows, earlier, later):
    """Return rows with one of two states with equal columns taken out, its row added to that of the other one."""
    joined = [one + other for one, other in zip(rows[earlier], rows[later])]
    kept = [joined if at == earlier else row for at, row in enumerate(rows) if at != later]
    return [[entry for at, entry in enumerate(row) if at != later] for row in kept]


def _renamed(rows, order):
    """Return the matrix of rows whose states stand in an order."""
    return tuple([tuple([rows[start][end] for end in order]) for start in order])


def same_one_way(one, other):
    """Return whether two matrices that are full of life have the same amalgamated matrix."""
    check_matrix(one)
    check_matrix(other)
    return amalgamated(one) == amalgamated(other)
