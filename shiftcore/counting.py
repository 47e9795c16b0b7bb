"""Numbers of words and of periodic sequences, and zeta functions (points 9 and 10)."""

from itertools import combinations

from shiftcore.checks import check_length, check_web, is_between
from shiftcore.ends import LABELS
from shiftcore.errors import BadPolynomial, TooMany
from shiftcore.graphs import closed_parts
from shiftcore.polynomials import common_factor, product_of, quotient_of
from shiftcore.readers import reader
from shiftcore.squares import characteristic, empty_square, least_counts, power_traces
from shiftcore.tables import renamed, table_arrows

LONGEST_WORD = 200
LONGEST_PERIOD = 60
MOST_CLOSED = 6
MOST_COEFFICIENTS = 41
MOST_COEFFICIENT = 1000000


def count_words(web, length):
    """Return the number of words of a length that a web reads."""
    check_web(web)
    check_length(length, 0, LONGEST_WORD)
    rows = reader(web)
    counts = [1] * len(rows)
    for _ in range(length):
        counts = [sum(counts[there] for there in row if there is not None) for row in rows]
    return counts[0] if counts else 0


def count_periodic(web, length):
    """Return the number of sequences of the shift that a move by `length` places leaves unchanged."""
    check_web(web)
    check_length(length, 1, LONGEST_PERIOD)
    return _periodic_counts(web, length)[-1]


def count_orbits(web, length):
    """Return the number of classes of sequences whose least period is `length`."""
    check_web(web)
    check_length(length, 1, LONGEST_PERIOD)
    return orbit_counts(web, length)[-1]


def orbit_counts(web, length):
    """Return the list of the numbers of classes of sequences with the least periods 1, 2, .., length."""
    return [count // n for n, count in enumerate(least_counts(_periodic_counts(web, length)), start=1)]


def _periodic_counts(web, length):
    """Return the list of the numbers of sequences with the periods 1, 2, .., length."""
    counts = [0] * length
    sign = 1
    for square in _set_squares(_closed_table(web)):
        counts = [count + sign * trace for count, trace in zip(counts, power_traces(square, length))]
        sign = -sign
    return counts


def _closed_table(web):
    """Return the table of those states of the reader that lie on closed walks in it."""
    rows = reader(web)
    states = []
    for part in closed_parts(len(rows), table_arrows(rows)):
        states.extend(part)
    if len(states) > MOST_CLOSED:
        raise TooMany(MOST_CLOSED)
    number = {state: at for at, state in enumerate(states)}
    return [renamed(rows[state], number) for state in states]


def _set_squares(rows):
    """Return, for k from 1 to the number of states, the matrix of the labels that lead k states to k unlike ones.

    If a word can be read again and again, the reader comes to a state that the word leads back to itself, as the
    words that can be read behind more rounds are never more. The sets of states that the word permutes go in pairs,
    with and without that state. So the empty set and those of even size are as many as those of odd size.
    """
    squares = []
    for size in range(1, len(rows) + 1):
        sets = list(combinations(range(len(rows)), size))
        number = {states: at for at, states in enumerate(sets)}
        square = empty_square(len(sets))
        for at, states in enumerate(sets):
            for label in LABELS:
                ends = [rows[state][label] for state in states]
                if None not in ends and len(set(ends)) == size:
                    square[at][number[tuple(sorted(ends))]] += 1
        squares.append(square)
    return squares


def zeta(web):
    """Return the pair of polynomials whose quotient is the zeta function of the shift of a web."""
    check_web(web)
    top = (1,)
    bottom = (1,)
    for at, square in enumerate(_set_squares(_closed_table(web))):
        if at % 2 == 0:
            bottom = product_of(bottom, characteristic(square))
        else:
            top = product_of(top, characteristic(square))
    factor = common_factor(top, bottom)
    return _reduced(top, factor), _reduced(bottom, factor)


def _reduced(poly, factor):
    """Return a polynomial divided by a factor of it, with the constant coefficient 1."""
    found = quotient_of(poly, factor)
    return tuple([value * found[0] for value in found])


def power_sums(top, bottom, length):
    """Return the numbers p(1), .., p(length) whose series, p(n) over n, has top / bottom as its exponential."""
    _check_polynomial(top)
    _check_polynomial(bottom)
    check_length(length, 0, LONGEST_PERIOD)
    return tuple([one - other for one, other in zip(_log_sums(top, length), _log_sums(bottom, length))])


def _check_polynomial(value):
    """Raise BadPolynomial unless a value is a polynomial of the size and with the constant that point 10 asks for."""
    if not isinstance(value, tuple) or not 1 <= len(value) <= MOST_COEFFICIENTS:
        raise BadPolynomial("not a tuple of 1 to 41 coefficients")
    if not all(is_between(entry, -MOST_COEFFICIENT, MOST_COEFFICIENT) for entry in value):
        raise BadPolynomial("not integers from -1000000 to 1000000")
    if value[0] != 1 or value[-1] == 0:
        raise BadPolynomial("not 1 at first, or 0 at last")


def _log_sums(poly, length):
    """Return the coefficients 1 to `length` of t times the derivative of the logarithm of a polynomial."""
    values = list(poly) + [0] * length
    found = [0]
    for n in range(1, length + 1):
        found.append(n * values[n] - sum(values[n - k] * found[k] for k in range(1, n)))
    return found[1:]
