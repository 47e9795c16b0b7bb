"""Square matrices of integers as rows: traces of powers, characteristic polynomials and diagonal forms."""


def empty_square(many):
    """Return the matrix of zeros with so many rows."""
    return [[0] * many for _ in range(many)]


def power_traces(rows, length):
    """Return the list of the traces of the powers 1, 2, .., length of a matrix."""
    sparse = [[(column, entry) for column, entry in enumerate(row) if entry != 0] for row in rows]
    power = empty_square(len(rows))
    for at in range(len(rows)):
        power[at][at] = 1
    found = []
    for _ in range(length):
        power = [_times(row, sparse) for row in power]
        found.append(sum(power[at][at] for at in range(len(rows))))
    return found


def _times(row, sparse):
    """Return a row times a matrix whose rows are lists of pairs (column, entry)."""
    product = [0] * len(row)
    for factor, entries in zip(row, sparse):
        if factor != 0:
            for column, entry in entries:
                product[column] += factor * entry
    return product


def least_counts(counts):
    """Return, from the numbers of things with the periods 1, 2, .., how many have each one as their least period."""
    least = []
    for n, count in enumerate(counts, start=1):
        least.append(count - sum(least[k - 1] for k in range(1, n) if n % k == 0))
    return least


def characteristic(rows):
    """Return the coefficients of the determinant of I - t A, from the constant one on, for a matrix A."""
    traces = power_traces(rows, len(rows))
    found = [1]
    # Newton: n times coefficient n is minus the sum of trace n - k times coefficient k.
    for n in range(1, len(rows) + 1):
        total = sum(found[k] * traces[n - k - 1] for k in range(n))
        found.append(-total // n)
    while found[-1] == 0:
        found.pop()
    return tuple(found)


def determinant(rows):
    """Return the determinant of a matrix."""
    # The last coefficient of the determinant of I + t A, if it is not 0.
    found = characteristic([[-entry for entry in row] for row in rows])
    return found[len(rows)] if len(found) > len(rows) else 0


def diagonal_minors(rows):
    """Return the determinants that are left if each row, with its column, is left out.

    If all rows have the sum 0, these multiples of them have the sum 0, too.
    """
    return [determinant(_without(rows, at)) for at in range(len(rows))]


def _without(rows, out):
    """Return rows without one row and its column."""
    return [[entry for by, entry in enumerate(row) if by != out] for at, row in enumerate(rows) if at != out]


def diagonal_of(rows):
    """Return the positive numbers, each a divisor of the next one, that are left on a diagonal of zeros elsewhere.

    Multiples of rows or columns are added to others, and they change places; so the group of all rows of integers
    modulo the sums of these rows stays the same.
    """
    rest = [list(row) for row in rows]
    found = []
    while any([any(row) for row in rest]):
        rest = _turned(_first_subtracted(_least_first(rest)))
        rest = _first_subtracted(rest)
        if any(rest[0][1:]) or any([row[0] for row in rest[1:]]):
            # What is left there is nearer to 0 than the first entry, so that this cannot go on for ever.
            continue
        pivot = rest[0][0]
        odd = [row for row in rest[1:] if any([entry % pivot for entry in row])]
        if odd:
            rest[0] = [pivot, *odd[0][1:]]
        else:
            found.append(abs(pivot))
            rest = [row[1:] for row in rest[1:]]
    return found


def _least_first(rows):
    """Return rows with an entry that is nearest to 0, but not 0, brought to the first row and column."""
    places = [(abs(entry), at, by) for at, row in enumerate(rows) for by, entry in enumerate(row) if entry != 0]
    _, top, side = min(places)
    ordered = [rows[top], *rows[:top], *rows[top + 1:]]
    return [[row[side], *row[:side], *row[side + 1:]] for row in ordered]


def _first_subtracted(rows):
    """Return rows with the first one subtracted from the others until their first entries are remainders."""
    first = rows[0]
    found = [first]
    for row in rows[1:]:
        factor = row[0] // first[0]
        found.append([entry - factor * by for entry, by in zip(row, first)])
    return found


def _turned(rows):
    """Return the columns as rows."""
    return [list(column) for column in zip(*rows)]
