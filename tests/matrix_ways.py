"""Plain second ways to the answers about matrices, and the matrices that the tests ask about."""

from itertools import combinations, permutations
from math import gcd
from random import Random


def random_matrices(seed, many, states, most, zeros):
    """Return so many matrices with 1 to `states` states; so many percent of the entries are 0."""
    rng = Random(seed)
    found = []
    for _ in range(many):
        size = rng.randint(1, states)
        found.append(tuple(tuple(0 if rng.randrange(100) < zeros else rng.randint(1, most) for _ in range(size))
                           for _ in range(size)))
    return found


def ring_matrix(many, steps=1):
    """Return a matrix of so many states, each with one edge, so many states on."""
    return tuple(tuple(int((at + steps) % many == by) for by in range(many)) for at in range(many))


ZERO = ((0,),)
ONE = ((1,),)
TWO = ((2,),)
GOLDEN = ((1, 1), (1, 0))
TRIANGLE = ((1, 1), (0, 1))
# The group of ((1,),), but no ring.
LIKE_RING = ((2, 1), (1, 2))
HEAVY = tuple((20,) * 6 for _ in range(6))
SPECIAL = [ZERO, ONE, TWO, ((20,),), GOLDEN, TRIANGLE, LIKE_RING, HEAVY, ((1, 2), (2, 1)), ((0, 1), (0, 0)),
           ((0, 0), (0, 0)), ((0, 20), (20, 0)), ((3, 2), (2, 3)), ((5, 0), (0, 7)), ((3, 0), (0, 3))]
SPECIAL += [ring_matrix(many) for many in (2, 3, 6)] + [ring_matrix(4, 2), ring_matrix(6, 5), ring_matrix(3, 0)]
MANY = SPECIAL + random_matrices(1, 60, 4, 3, 45) + random_matrices(2, 30, 5, 20, 30) + random_matrices(3, 40, 6, 2, 60)
MANY += random_matrices(4, 60, 3, 2, 20)


def determinant(rows):
    """Return the determinant, by its first row."""
    if not rows:
        return 1
    total = 0
    for at, entry in enumerate(rows[0]):
        if entry:
            total += (-1) ** at * entry * determinant([row[:at] + row[at + 1:] for row in rows[1:]])
    return total


def less(matrix, t=1):
    """Return the rows of I - t A."""
    return [[(at == by) - t * entry for by, entry in enumerate(row)] for at, row in enumerate(matrix)]


def divisors(matrix):
    """Return the greatest common divisors of the minors of I - A of the sizes 0, 1, .., as long as they are not 0."""
    rows = less(matrix)
    found = [1]
    for size in range(1, len(rows) + 1):
        divisor = 0
        for tops in combinations(range(len(rows)), size):
            for sides in combinations(range(len(rows)), size):
                divisor = gcd(divisor, determinant([[rows[at][by] for by in sides] for at in tops]))
        if divisor == 0:
            break
        found.append(divisor)
    return found


def reach(matrix):
    """Return for each state the set of states to which walks of at least one edge lead."""
    found = []
    for start in range(len(matrix)):
        queue = [by for by, entry in enumerate(matrix[start]) if entry]
        for here in queue:
            queue.extend(by for by, entry in enumerate(matrix[here]) if entry and by not in queue)
        found.append(set(queue))
    return found


def is_whole(matrix):
    """Return whether each state reaches each state."""
    return all(len(there) == len(matrix) for there in reach(matrix))


def is_alive(matrix):
    """Return whether no row and no column is 0 everywhere."""
    return all(map(any, matrix)) and all(map(any, zip(*matrix)))


def edges_of(matrix):
    """Return the list of the edges (start, end) of a matrix."""
    return [(at, by) for at, row in enumerate(matrix) for by, entry in enumerate(row) for _ in range(entry)]


def matrix_of(many, edges):
    """Return the matrix of so many states with these edges."""
    return tuple(tuple(edges.count((at, by)) for by in range(many)) for at in range(many))


def renamed(matrix, order):
    """Return a matrix with its states in another order."""
    return tuple(tuple(matrix[at][by] for by in order) for at in order)


def all_names(matrix):
    """Return all matrices that new names make of a matrix."""
    return [renamed(matrix, order) for order in permutations(range(len(matrix)))]


def stretched(matrix, start, end):
    """Return the matrix with an edge cut in two, edge by edge."""
    edges = edges_of(matrix)
    edges.remove((start, end))
    new = len(matrix)
    return matrix_of(new + 1, edges + [(start, new), (new, end)])


def split(matrix, state, first):
    """Return the matrix with a state split, edge by edge: first the ends, then the starts of the edges."""
    new = len(matrix)
    edges = edges_of(matrix)
    copies = list(first)
    out = []
    for start, end in edges:
        if start == state and copies[end] > 0:
            copies[end] -= 1
            out.append((start, end))
        else:
            out.append((new if start == state else start, end))
    return matrix_of(new + 1, [(start, by) for start, end in out for by in ([end, new] if end == state else [end])])


def splits(row):
    """Return all rows into which a row may be split, with the rest left for the other state."""
    found = [()]
    for entry in row:
        found = [(*kept, k) for kept in found for k in range(entry + 1)]
    return [kept for kept in found if any(kept) and kept != tuple(row)]


def moved(rng, matrix, kinds):
    """Return a matrix that a move of one of these kinds makes of a matrix of at most 5 states."""
    kind = rng.choice(kinds)
    if kind == "names":
        order = list(range(len(matrix)))
        rng.shuffle(order)
        return renamed(matrix, order)
    if kind == "stretch":
        return stretched(matrix, *rng.choice(edges_of(matrix)))
    state = rng.randrange(len(matrix))
    found = splits(matrix[state])
    return split(matrix, state, rng.choice(found)) if found else matrix


def chain(rng, matrix, kinds):
    """Return a matrix of at most 6 states that some moves of these kinds make of a matrix."""
    for _ in range(6):
        if len(matrix) < 6:
            matrix = moved(rng, matrix, kinds)
    return matrix
