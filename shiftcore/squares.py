"""Square matrices of integers as lists of rows: traces of powers and characteristic polynomials."""


def empty_square(many):
    """Return the matrix of zeros with so many rows."""
    return [[0] * many for _ in range(many)]


def power_traces(rows, length):
    """Return the list of the traces of the powers 1, 2, .., length of a matrix."""
    sparse = [[(column, entry) for column, entry in enumerate(row) if entry != 0] for row in rows]
    power = empty_square(len(rows))
    for at in range(len(rows)):
        power[at][at] = 1
    found = []
    for _ in range(length):
        power = [_times(row, sparse) for row in power]
        found.append(sum(power[at][at] for at in range(len(rows))))
    return found


def _times(row, sparse):
    """Return a row times a matrix whose rows are lists of pairs (column, entry)."""
    product = [0] * len(row)
    for factor, entries in zip(row, sparse):
        if factor != 0:
            for column, entry in entries:
                product[column] += factor * entry
    return product


def characteristic(rows):
    """Return the coefficients of the determinant of I - t A, from the constant one on, for a matrix A."""
    traces = power_traces(rows, len(rows))
    found = [1]
    # Newton: n times coefficient n is minus the sum of trace n - k times coefficient k.
    for n in range(1, len(rows) + 1):
        total = sum(found[k] * traces[n - k - 1] for k in range(n))
        found.append(-total // n)
    while found[-1] == 0:
        found.pop()
    return tuple(found)
