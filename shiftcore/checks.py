"""The checks of arguments that several files share. True and False are not integers here."""

from shiftcore.errors import BadLength, BadMatrix, BadNumber, BadState, BadWeb, BadWord

MOST_STATES = 32
MOST_EDGES = 100
MOST_LABEL = 3
LONGEST_WORD = 60
MOST_ROWS = 6
MOST_ENTRY = 20


def is_between(value, low, high):
    """Return whether a value is an integer from low to high."""
    return isinstance(value, int) and not isinstance(value, bool) and low <= value <= high


def is_word(value, least, most, letters):
    """Return whether a value is a tuple of least to most integers from 0 on, each below the number of letters."""
    if not isinstance(value, tuple) or not least <= len(value) <= most:
        return False
    return all(is_between(letter, 0, letters - 1) for letter in value)


def check_web(web):
    """Raise BadWeb unless a value is a web."""
    if not isinstance(web, tuple) or len(web) != 2:
        raise BadWeb(None)
    many, edges = web
    if not is_between(many, 0, MOST_STATES):
        raise BadWeb(None)
    if not isinstance(edges, tuple) or len(edges) > MOST_EDGES:
        raise BadWeb(None)
    for at, edge in enumerate(edges):
        if not _is_edge(edge, many):
            raise BadWeb(at)
        if at > 0 and edge <= edges[at - 1]:
            raise BadWeb(at)


def _is_edge(value, many):
    """Return whether a value is a triple of two of so many states and a label."""
    if not isinstance(value, tuple) or len(value) != 3:
        return False
    start, end, label = value
    return is_between(start, 0, many - 1) and is_between(end, 0, many - 1) and is_between(label, 0, MOST_LABEL)


def check_word(word):
    """Raise BadWord unless a value is a word of labels."""
    if not is_word(word, 0, LONGEST_WORD, MOST_LABEL + 1):
        raise BadWord("not a tuple of at most 60 labels")


def check_length(length, low, high):
    """Raise BadLength unless a value is an integer from low to high."""
    if not is_between(length, low, high):
        raise BadLength("not such a length")


def check_number(number, low, high):
    """Raise BadNumber unless a value is an integer from low to high."""
    if not is_between(number, low, high):
        raise BadNumber("not such a number")


def check_matrix(matrix):
    """Raise BadMatrix unless a value is a matrix."""
    if not isinstance(matrix, tuple) or not 1 <= len(matrix) <= MOST_ROWS:
        raise BadMatrix("not a tuple of 1 to 6 rows")
    for row in matrix:
        if not is_word(row, len(matrix), len(matrix), MOST_ENTRY + 1):
            raise BadMatrix("not as many integers from 0 to 20 as rows")


def check_state(state, many):
    """Raise BadState unless a value is one of so many states."""
    if not is_between(state, 0, many - 1):
        raise BadState("not such a state")
