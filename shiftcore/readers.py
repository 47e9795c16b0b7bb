"""Readers, the words that tell shifts apart, and the covers of whole webs (points 7 and 8)."""

from shiftcore.checks import check_web
from shiftcore.ends import LABELS, all_bits, least_set, sets_met
from shiftcore.graphs import common_length
from shiftcore.parts import whole_core
from shiftcore.tables import counted_from, label_arrows, set_table, smallest, table_arrows
from shiftcore.webs import essential

MOST_TRIED = 2000


def reader(web):
    """Return the table with the fewest states that reads the words of a web from state 0 on."""
    return smallest(set_table(essential(web)))


def same_shift(one, other):
    """Return whether two webs have the same shift."""
    rows, others = _both_readers(one, other)
    return rows == others


def parting_word(one, other):
    """Return the word, shorter, then smaller, that exactly one of two webs reads, or None."""
    rows, others = _both_readers(one, other)
    return least_word(rows, others, True)


def stray_word(one, other):
    """Return the word, shorter, then smaller, that the second web reads and the first one does not, or None."""
    rows, others = _both_readers(one, other)
    return least_word(rows, others, False)


def _both_readers(one, other):
    """Return the readers of two webs, both of which are checked before a reader is made."""
    check_web(one)
    check_web(other)
    return reader(one), reader(other)


def least_word(rows, others, either):
    """Return the least word that the second reader reads and the first one does not, `either` way round if so told."""
    if not rows or not others:
        return () if others or (either and rows) else None
    queue = [((), 0, 0)]
    met = {(0, 0): True}
    at = 0
    while at < len(queue):
        word, here, there = queue[at]
        for label in LABELS:
            pair = (rows[here][label], others[there][label])
            if _is_told(pair, either):
                return (*word, label)
            if None not in pair and pair not in met:
                met[pair] = True
                queue.append(((*word, label), pair[0], pair[1]))
        at += 1
    return None


def _is_told(pair, either):
    """Return whether the second state of a pair is one and the first one None; or, if `either`, the other way round."""
    if pair[0] is None:
        return pair[1] is not None
    return either and pair[1] is None


def magic_word(web):
    """Return the magic word, shorter, then smaller, of a whole web."""
    return _magic(_whole_reader(web))[0]


def cover(web):
    """Return the part of the reader of a whole web that the state behind its magic word reaches."""
    rows = _whole_reader(web)
    return counted_from(rows, _magic(rows)[1])


def is_mixing(web):
    """Return whether the lengths of all closed walks in the cover of a whole web have no common divisor."""
    rows = cover(web)
    return common_length(len(rows), table_arrows(rows)) == 1


def _whole_reader(web):
    """Return the reader of a web, which must be whole."""
    return smallest(set_table(whole_core(web)))


def _magic(rows):
    """Return the magic word of the reader of a whole web, and the state behind it."""
    met = sets_met(label_arrows(rows), all_bits(len(rows)), 1, MOST_TRIED)
    # A whole web has a magic word; so the least set has one state.
    here = least_set(met)
    return met[here], here.bit_length() - 1
