"""Codes between shifts: tables that give each word of a window a label (point 31)."""

from shiftcore.bars import all_words
from shiftcore.checks import MOST_LABEL, check_length, check_web, is_word
from shiftcore.errors import BadCode, TooMany
from shiftcore.readers import least_word, reader, same_shift, stray_word
from shiftcore.recoding import block_steps
from shiftcore.tables import set_table
from shiftcore.webs import essential, words

LONGEST_WINDOW = 3
MOST_WORDS = 12
MOST_SEARCHED = 6


def coded_web(web, window, code):
    """Return a web whose shift is the set of the sequences that a code table makes of those of a web."""
    check_web(web)
    many_words = len(_window_words(web, window, MOST_WORDS))
    if not is_word(code, many_words, many_words, MOST_LABEL + 1):
        raise BadCode("not one label for each word of the window")
    return _relabelled(_word_steps(web, window), code)


def _window_words(web, window, most):
    """Return the words of a window that a web reads, which may be only so many."""
    check_length(window, 1, LONGEST_WINDOW)
    found = words(web, window)
    if len(found) > most:
        raise TooMany(most)
    return found


def _word_steps(web, window):
    """Return the number of states of the web of blocks, and its edges, each with the place of its word for a label."""
    edges = essential(web)[1]
    place = {word: at for at, word in enumerate(words(web, window))}
    many, steps = block_steps(web, window)
    return many, [(start, end, place[tuple([edges[at][2] for at in walk])]) for start, end, walk in steps]


def _relabelled(frame, code):
    """Return the web with the labels of a code table in the places of words."""
    many, steps = frame
    return many, tuple(sorted({(start, end, code[place]) for start, end, place in steps}))


def carries(one, other, window, code):
    """Return whether a code table makes sequences of the second shift of all those of the first one."""
    check_web(one)
    check_web(other)
    return stray_word(other, coded_web(one, window, code)) is None


def covers(one, other, window, code):
    """Return whether a code table makes exactly the second shift of the first one."""
    check_web(one)
    check_web(other)
    return same_shift(coded_web(one, window, code), other)


def first_code(one, other, window):
    """Return the smallest code table that carries the first shift into the second one; None without one."""
    return _first_table(one, other, window, False)


def first_cover(one, other, window):
    """Return the smallest code table that makes exactly the second shift of the first one; None without one."""
    return _first_table(one, other, window, True)


def _first_table(one, other, window, is_cover):
    """Return the smallest code table that carries, or covers if so told; None without one."""
    check_web(one)
    check_web(other)
    many_words = len(_window_words(one, window, MOST_SEARCHED))
    frame = _word_steps(one, window)
    rows = reader(other)
    for code in all_words(MOST_LABEL + 1, many_words):
        if least_word(rows, set_table(_relabelled(frame, code)), is_cover) is None:
            return code
    return None
