"""The growth of the numbers of words and of walks, compared and rounded down exactly (point 11)."""

from shiftcore.checks import check_length, check_web
from shiftcore.errors import TooMany
from shiftcore.polynomials import common_factor, derivative, moved_roots, quotient_of
from shiftcore.readers import reader
from shiftcore.squares import characteristic, empty_square
from shiftcore.tables import table_arrows
from shiftcore.webs import essential

MOST_PLACES = 12
MOST_ROWS = 40


def growth_floor(web, places):
    """Return the greatest integer that is not greater than the growth of a web times 10 to the power `places`."""
    check_web(web)
    check_length(places, 0, MOST_PLACES)
    return _floor(_word_polynomials([web])[0], places)


def walks_floor(web, places):
    """Return the greatest integer that is not greater than the walk growth times 10 to the power `places`."""
    check_web(web)
    check_length(places, 0, MOST_PLACES)
    return _floor(_walk_polynomial(web), places)


def compare_growth(one, other):
    """Return -1, 0 or 1 if the growth of the first web is smaller than, equal to, or greater than the other one."""
    check_web(one)
    check_web(other)
    left, right = _word_polynomials([one, other])
    return _compared(left, right)


def compare_walks(one, other):
    """Return -1, 0 or 1 as compare_growth does, for the walk growth."""
    check_web(one)
    check_web(other)
    return _compared(_walk_polynomial(one), _walk_polynomial(other))


def _word_polynomials(webs):
    """Return the polynomials of the readers of webs; all readers are made before their sizes are looked at."""
    tables = [reader(web) for web in webs]
    if max([len(rows) for rows in tables]) > MOST_ROWS:
        raise TooMany(MOST_ROWS)
    return [_growth_polynomial(len(rows), table_arrows(rows)) for rows in tables]


def _walk_polynomial(web):
    """Return the polynomial of the numbers of edges of the essential web of a web."""
    many, edges = essential(web)
    return _growth_polynomial(many, [(start, end) for start, end, _ in edges])


def _growth_polynomial(many, arrows):
    """Return the characteristic polynomial of the numbers of arrows, without its roots 0.

    Its growth is its greatest root, and no root has a greater absolute value; it is 0 where there is no root.
    """
    square = empty_square(many)
    for start, end in arrows:
        square[start][end] += 1
    return characteristic(square)[::-1]


def _is_below(poly, top, bottom):
    """Return whether no real root of a polynomial is top / bottom or greater.

    This holds for polynomials such that no root has a real part greater than their growth: exactly if top / bottom
    is greater than it, all roots less top / bottom have negative real parts, and only then all coefficients of the
    polynomial with these roots are positive.
    """
    return all(value > 0 for value in moved_roots(poly, top, bottom))


def _floor(poly, places):
    """Return the growth of a polynomial times 10 to the power `places`, rounded down."""
    scale = 1
    for _ in range(places):
        scale *= 10
    low = 0
    high = 1
    while not _is_below(poly, high, scale):
        low = high
        high *= 2
    while high - low > 1:
        middle = (low + high) // 2
        if _is_below(poly, middle, scale):
            high = middle
        else:
            low = middle
    return low


def _compared(left, right):
    """Return -1, 0 or 1 if the growth of the first polynomial is smaller than, equal to, or greater than the other."""
    left, right = _single_roots(left), _single_roots(right)
    shared = common_factor(left, right)
    left_rest, right_rest = quotient_of(left, shared), quotient_of(right, shared)
    scale = 1
    one, other = _floor(left, 0), _floor(right, 0)
    # Either the growths part, or both are roots of the shared factor, as soon as no rest has a root so great.
    while one == other and not (_is_below(left_rest, one, scale) and _is_below(right_rest, one, scale)):
        scale *= 2
        one = 2 * one + (0 if _is_below(left, 2 * one + 1, scale) else 1)
        other = 2 * other + (0 if _is_below(right, 2 * other + 1, scale) else 1)
    if one == other:
        return 0
    return -1 if one < other else 1


def _single_roots(poly):
    """Return the polynomial with the same roots, each of them once."""
    return quotient_of(poly, common_factor(poly, derivative(poly)))
