"""Polynomials with integer coefficients: tuples from the constant coefficient on, the last one not 0."""

from math import gcd


def cleaned(values):
    """Return the polynomial with these coefficients."""
    many = len(values)
    while many > 0 and values[many - 1] == 0:
        many -= 1
    return tuple(values[:many])


def product_of(one, other):
    """Return the product of two polynomials that are not 0."""
    values = [0] * (len(one) + len(other) - 1)
    for at, left in enumerate(one):
        for by, right in enumerate(other):
            values[at + by] += left * right
    return cleaned(values)


def derivative(poly):
    """Return the derivative of a polynomial."""
    return cleaned([at * value for at, value in enumerate(poly)][1:])


def common_factor(one, other):
    """Return the greatest common factor of two polynomials, not both 0: in lowest terms, its last number positive."""
    left, right = _in_lowest_terms(one), _in_lowest_terms(other)
    while right:
        left, right = right, _in_lowest_terms(_remainder(left, right))
    return left if left[-1] > 0 else tuple([-value for value in left])


def _in_lowest_terms(poly):
    """Return a polynomial divided by the greatest common divisor of its coefficients."""
    divisor = 0
    for value in poly:
        divisor = gcd(divisor, value)
    return tuple([value // divisor for value in poly])


def _remainder(one, other):
    """Return the remainder of some multiple of a polynomial by another one, which is not 0."""
    values = list(one)
    while len(values) >= len(other):
        factor = values[-1]
        shift = len(values) - len(other)
        values = [value * other[-1] for value in values]
        for at, value in enumerate(other):
            values[shift + at] -= factor * value
        values = list(cleaned(values))
    return tuple(values)


def quotient_of(one, other):
    """Return a polynomial divided by a factor of it whose last coefficient divides all that is met."""
    values = list(one)
    many = len(one) - len(other) + 1
    quotient = [0] * many
    for at in reversed(range(many)):
        quotient[at] = values[at + len(other) - 1] // other[-1]
        for by, value in enumerate(other):
            values[at + by] -= quotient[at] * value
    return cleaned(quotient)


def moved_roots(poly, top, bottom):
    """Return the polynomial, of the same degree, with `bottom` times each root less `top` for its roots."""
    degree = len(poly) - 1
    values = list(poly)
    power = 1
    for at in reversed(range(degree)):
        power *= bottom
        values[at] *= power
    for low in range(degree):
        for at in reversed(range(low, degree)):
            values[at] += top * values[at + 1]
    return tuple(values)
