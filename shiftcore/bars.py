"""Barred words and shifts of finite kind (point 6)."""

from shiftcore.checks import is_between, is_word
from shiftcore.ends import LABELS
from shiftcore.errors import BadBars, BadLetters, TooMany
from shiftcore.graphs import longest_walk
from shiftcore.readers import reader
from shiftcore.webs import trimmed

MOST_LETTERS = 3
MOST_BARS = 8
LONGEST_BAR = 4
MOST_LEAST_BARS = 400


def web_of_bars(letters, bars):
    """Return the essential web of the sequences of letters in which no barred word stands."""
    if not is_between(letters, 1, MOST_LETTERS):
        raise BadLetters("not a number of letters from 1 to 3")
    _check_bars(bars, letters)
    longest = max([len(bar) for bar in bars], default=1)
    states = all_words(letters, longest - 1)
    number = {state: at for at, state in enumerate(states)}
    edges = []
    for word in all_words(letters, longest):
        if not any(_stands_in(bar, word) for bar in bars):
            edges.append((number[word[:-1]], number[word[1:]], word[-1]))
    return trimmed(sorted(edges))


def _check_bars(bars, letters):
    """Raise BadBars unless a value is bars over so many letters."""
    if not isinstance(bars, tuple) or len(bars) > MOST_BARS:
        raise BadBars(None)
    for at, bar in enumerate(bars):
        if not is_word(bar, 1, LONGEST_BAR, letters):
            raise BadBars(at)


def all_words(letters, length):
    """Return all words of a length, in ascending order."""
    found = [()]
    for _ in range(length):
        found = [(*word, letter) for word in found for letter in range(letters)]
    return found


def _stands_in(bar, word):
    """Return whether a bar stands somewhere in a word."""
    return any(word[at:at + len(bar)] == bar for at in range(len(word) - len(bar) + 1))


def is_finite_kind(web):
    """Return whether the shift of a web is of finite kind."""
    return step(web) is not None


def step(web):
    """Return the least M such that read words that share M or more labels make a read word; None without one."""
    return _steps_apart(reader(web))


def _steps_apart(rows):
    """Return the least number of labels behind which it does not matter what was read before, or None."""
    return longest_walk(_unlike_pairs(rows))


def _unlike_pairs(rows):
    """Return the pairs of unlike states behind u + w and behind w for words u and w, each with its next ones."""
    queue = [(state, 0) for state in range(1, len(rows))]
    nexts = {pair: [] for pair in queue}
    at = 0
    while at < len(queue):
        here, there = queue[at]
        for label in LABELS:
            pair = (rows[here][label], rows[there][label])
            if pair[0] is not None and pair[0] != pair[1]:
                nexts[(here, there)].append(pair)
                if pair not in nexts:
                    nexts[pair] = []
                    queue.append(pair)
        at += 1
    return nexts


def least_bars(web):
    """Return the words that a web does not read although it reads all their pieces; None if not of finite kind."""
    rows = reader(web)
    if not rows:
        return ((),)
    if _steps_apart(rows) is None:
        return None
    found = [(label,) for label in LABELS if rows[0][label] is None]
    ahead = [((label,), rows[0][label], 0) for label in LABELS if rows[0][label] not in (None, 0)]
    while ahead:
        more, ahead = _longer_bars(rows, ahead)
        found.extend(more)
        # Unlike states are told apart by a bar, so that each word still ahead stands for one or more.
        if len(found) + len(ahead) > MOST_LEAST_BARS:
            raise TooMany(MOST_LEAST_BARS)
    return tuple(found)


def _longer_bars(rows, ahead):
    """Return the bars with one label more, and the words that may still grow to bars.

    A word stands with the state behind it and the state behind it without its first label.
    """
    found = []
    growing = []
    for word, here, there in ahead:
        for label in LABELS:
            pair = (rows[here][label], rows[there][label])
            if pair[0] is None and pair[1] is not None:
                found.append((*word, label))
            elif pair[0] != pair[1]:
                growing.append(((*word, label), pair[0], pair[1]))
    return found, growing
