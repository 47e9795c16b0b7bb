"""Machines, the words that lead their states together, and their ranks (point 17)."""

from shiftcore.checks import check_state, is_word
from shiftcore.ends import all_bits, least_set, many_in, sets_met, states_in
from shiftcore.errors import BadMachine

MOST_STATES = 8
MOST_LETTERS = 3
# There are no more sets of at most 8 states.
MOST_SETS = 256


def is_machine(value):
    """Return whether a value is a machine."""
    if not isinstance(value, tuple) or not 1 <= len(value) <= MOST_STATES:
        return False
    for row in value:
        if not is_word(row, 1, MOST_LETTERS, len(value)) or len(row) != len(value[0]):
            return False
    return True


def _check_machine(machine):
    """Raise BadMachine unless a value is a machine."""
    if not is_machine(machine):
        raise BadMachine("not 1 to 8 rows of 1 to 3 states each")


def reset_word(machine):
    """Return the word, shorter, then smaller, that leads all states to one; None without one."""
    _check_machine(machine)
    return _word_to_one(machine, all_bits(len(machine)))


def pair_word(machine, one, other):
    """Return the word, shorter, then smaller, that leads two states to one; None without one."""
    _check_machine(machine)
    check_state(one, len(machine))
    check_state(other, len(machine))
    return _word_to_one(machine, 1 << one | 1 << other)


def _word_to_one(machine, first):
    """Return the word, shorter, then smaller, that leads a set of states to one; None without one."""
    met = sets_met(_letter_arrows(machine), first, 1, MOST_SETS)
    here = least_set(met)
    return met[here] if many_in(here) == 1 else None


def _letter_arrows(machine):
    """Return, for each letter, the list of the pairs (state, next state)."""
    return [list(enumerate(column)) for column in zip(*machine)]


def _all_sets(machine):
    """Return the sets to which words lead all states, each with its first word."""
    _check_machine(machine)
    return sets_met(_letter_arrows(machine), all_bits(len(machine)), 0, MOST_SETS)


def rank(machine):
    """Return the least number of states to which a word leads all states."""
    return many_in(least_set(_all_sets(machine)))


def rank_word(machine):
    """Return the word, shorter, then smaller, that leads all states to as few as possible."""
    met = _all_sets(machine)
    return met[least_set(met)]


def rank_sets(machine):
    """Return the ascending tuple of the sets of as few states as possible to which words lead all states."""
    found = [states_in(here) for here in _all_sets(machine)]
    fewest = min([len(states) for states in found])
    return tuple(sorted([states for states in found if len(states) == fewest]))
