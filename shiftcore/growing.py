"""Words that grow: each letter becomes a word, over and over (point 27)."""

from shiftcore.checks import check_length, is_word
from shiftcore.errors import BadTable, BadWord, TooMany
from shiftcore.graphs import common_length, is_one_part

FEWEST_LETTERS = 2
MOST_LETTERS = 3
LONGEST_ENTRY = 4
LONGEST_WORD = 20
MOST_TIMES = 12
MOST_GROWN = 5000
LONGEST_PIECE = 6


def _check_table(table):
    """Raise BadTable unless a value is a growth table."""
    if not isinstance(table, tuple) or not FEWEST_LETTERS <= len(table) <= MOST_LETTERS:
        raise BadTable("not a tuple of 2 or 3 words")
    if not all(is_word(entry, 1, LONGEST_ENTRY, len(table)) for entry in table):
        raise BadTable("not words of 1 to 4 letters")


def _once(table, word):
    """Return the word that a word becomes if all its letters grow at once."""
    return tuple([letter for grower in word for letter in table[grower]])


def grown(table, word, times):
    """Return the word that a word becomes if all letters grow at once, so many times."""
    _check_table(table)
    if not is_word(word, 0, LONGEST_WORD, len(table)):
        raise BadWord("not a tuple of at most 20 letters")
    check_length(times, 0, MOST_TIMES)
    found = word
    for _ in range(times):
        found = _once(table, found)
        if len(found) > MOST_GROWN:
            raise TooMany(MOST_GROWN)
    return found


def counts(table):
    """Return the matrix of how often each letter stands in the word of each letter."""
    _check_table(table)
    return tuple([tuple([entry.count(letter) for letter in range(len(table))]) for entry in table])


def is_mingling(table):
    """Return whether after some number of times every letter becomes a word with all letters."""
    _check_table(table)
    arrows = [(letter, there) for letter, entry in enumerate(table) for there in entry]
    # Only then do walks of one and the same length lead from every letter to every letter.
    return is_one_part(len(table), arrows) and common_length(len(table), arrows) == 1


def pieces(table, length):
    """Return the ascending tuple of the words of a length that stand in what some letter becomes."""
    _check_table(table)
    check_length(length, 0, LONGEST_PIECE)
    if length == 0:
        return ((),)
    found = [(letter,) for letter in range(len(table))]
    met = {word: True for word in found}
    at = 0
    # A piece stands in what a piece of no more letters becomes, since no letter becomes the empty word.
    while at < len(found):
        for word in _pieces_of(_once(table, found[at]), length):
            if word not in met:
                met[word] = True
                found.append(word)
        at += 1
    return tuple(sorted([word for word in found if len(word) == length]))


def _pieces_of(word, most):
    """Return the pieces of 1 to `most` letters of a word."""
    return [word[at:at + size] for size in range(1, most + 1) for at in range(len(word) - size + 1)]
