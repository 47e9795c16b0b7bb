"""Point 17: machines, the words that lead their states together, and their ranks."""

import unittest
from itertools import product
from random import Random

from shiftcore.errors import BadMachine, BadState
from shiftcore.machines import pair_word, rank, rank_sets, rank_word, reset_word


def slow(many):
    """Return a machine of a turn (letter 1) and a letter 0 that leads the last state to the first one alone."""
    return tuple(((at + 1) % many if at == many - 1 else at, (at + 1) % many) for at in range(many))


def random_machines(seed, many, states, letters):
    """Return so many machines of 1 to `states` states."""
    rng = Random(seed)
    found = []
    for _ in range(many):
        size = rng.randint(1, states)
        found.append(tuple(tuple(rng.randrange(size) for _ in range(letters)) for _ in range(size)))
    return found


def permuted(seed, many, states, letters):
    """Return so many machines, each letter of which changes the order of the states, or a pair of them to one."""
    rng = Random(seed)
    found = []
    for _ in range(many):
        columns = [rng.sample(range(states), states) for _ in range(letters)]
        if rng.randrange(2):
            columns[0] = [end // 2 * 2 for end in columns[0]]
        found.append(tuple(zip(*columns)))
    return found


SWITCH = ((1,), (0,))
SMALL = [((0,),), ((0, 0),), ((0, 0, 0),), SWITCH, ((0, 1), (0, 1)), ((1, 0), (0, 1)), ((1,), (2,), (1,)), slow(3)]
SMALL += [((1, 1), (2, 1), (3, 2), (0, 3)), ((1, 0), (2, 2), (0, 1))]
SMALL += random_machines(1, 40, 3, 2) + random_machines(2, 20, 3, 3) + random_machines(3, 20, 4, 1)
SMALL += random_machines(4, 25, 4, 2) + permuted(5, 10, 4, 2)
LARGE = random_machines(6, 30, 8, 2) + permuted(7, 20, 8, 3) + permuted(8, 10, 7, 2) + [slow(5), slow(8)]


def moved(machine, states, word):
    """Return the set of the states that follow on some states when a word comes."""
    for letter in word:
        states = {machine[state][letter] for state in states}
    return states


def words_up_to(machine, most):
    """Return all words of up to so many letters, the shorter, then the smaller ones first."""
    return [word for length in range(most + 1) for word in product(range(len(machine[0])), repeat=length)]


def all_ends(machine, states, most):
    """Return all words of up to so many letters with the sets to which they lead some states."""
    return [(word, moved(machine, states, word)) for word in words_up_to(machine, most)]


def longest(machine):
    """Return a number of letters that is enough for each set of the states of a small machine.

    There are 7 sets of 3 states; with 4 states and 2 letters no reset word needs more than 9 letters.
    """
    return (4, 4, 6, {1: 14, 2: 9}.get(len(machine[0])))[len(machine) - 1]


def sets_met(machine, first):
    """Return all sets to which words lead a set."""
    met = [frozenset(first)]
    for here in met:
        for letter in range(len(machine[0])):
            there = frozenset(moved(machine, here, (letter,)))
            if there not in met:
                met.append(there)
    return met


class ResetWords(unittest.TestCase):
    def test_first_of_all_words(self):
        for machine in SMALL:
            states = set(range(len(machine)))
            found = [word for word, ends in all_ends(machine, states, longest(machine)) if len(ends) == 1]
            self.assertEqual(reset_word(machine), found[0] if found else None)
            self.assertEqual(bool(found), any(len(here) == 1 for here in sets_met(machine, states)))

    def test_first_of_all_words_for_pairs(self):
        for machine in SMALL[:70:2] + SMALL[70:]:
            for one in range(len(machine)):
                for other in range(len(machine)):
                    ends = all_ends(machine, {one, other}, longest(machine))
                    found = [word for word, states in ends if len(states) == 1]
                    self.assertEqual(pair_word(machine, one, other), found[0] if found else None)

    def test_a_word_for_all_exactly_if_for_each_pair(self):
        for machine in SMALL + LARGE:
            many = range(len(machine))
            pairs = [pair_word(machine, one, other) for one in many for other in many]
            self.assertEqual(reset_word(machine) is None, None in pairs)
            for (one, other), word in zip(product(many, repeat=2), pairs):
                self.assertEqual(word, pair_word(machine, other, one))
                self.assertEqual(word == (), one == other)
                if word is not None:
                    self.assertEqual(len(moved(machine, {one, other}, word)), 1)
            if reset_word(machine) is not None:
                self.assertEqual(len(moved(machine, set(many), reset_word(machine))), 1)

    def test_reset_words(self):
        self.assertEqual(reset_word(((0,),)), ())
        self.assertEqual(reset_word(((0, 0, 0),)), ())
        self.assertIsNone(reset_word(SWITCH))
        self.assertEqual(reset_word(((0, 1), (0, 1))), (0,))
        self.assertEqual(reset_word(((1, 0), (1, 0))), (0,))
        self.assertEqual(reset_word(((0, 0, 1), (1, 0, 1))), (1,))
        self.assertIsNone(reset_word(((0,), (1,))))
        self.assertEqual(reset_word(((0,), (0,), (1,), (2,))), (0, 0, 0))
        self.assertEqual([len(reset_word(slow(many))) for many in range(2, 9)], [1, 4, 9, 16, 25, 36, 49])
        self.assertEqual(reset_word(slow(3)), (0, 1, 1, 0))

    def test_pair_words(self):
        self.assertEqual(pair_word(SWITCH, 0, 0), ())
        self.assertEqual(pair_word(SWITCH, 1, 1), ())
        self.assertIsNone(pair_word(SWITCH, 0, 1))
        machine = ((0, 1), (0, 2), (2, 2), (3, 3))
        self.assertEqual(pair_word(machine, 0, 1), (0,))
        self.assertEqual(pair_word(machine, 1, 2), (1,))
        self.assertEqual(pair_word(machine, 0, 2), (1, 1))
        self.assertIsNone(pair_word(machine, 2, 3))
        self.assertIsNone(reset_word(machine))

    def test_wrong_states(self):
        for state in (3, -1, True, False, None, "0", (0,)):
            self.assertRaises(BadState, pair_word, slow(3), state, 0)
            self.assertRaises(BadState, pair_word, slow(3), 0, state)
            self.assertRaises(BadMachine, pair_word, ((1,),), state, state)
        self.assertRaises(BadState, pair_word, ((0,),), 1, 0)


class Ranks(unittest.TestCase):
    def test_by_all_words(self):
        for machine in SMALL:
            ends = all_ends(machine, set(range(len(machine))), longest(machine))
            least = min(len(states) for _, states in ends)
            self.assertEqual(rank(machine), least)
            self.assertEqual(rank_word(machine), [word for word, states in ends if len(states) == least][0])
            if len(machine) <= 3:
                found = {tuple(sorted(states)) for _, states in ends if len(states) == least}
                self.assertEqual(rank_sets(machine), tuple(sorted(found)))

    def test_by_all_sets(self):
        ranks = set()
        for machine in SMALL + LARGE:
            met = sets_met(machine, range(len(machine)))
            least = min(map(len, met))
            self.assertEqual(rank(machine), least)
            self.assertEqual(len(moved(machine, range(len(machine)), rank_word(machine))), least)
            found = sorted(tuple(sorted(here)) for here in met if len(here) == least)
            self.assertEqual(rank_sets(machine), tuple(found))
            self.assertEqual(reset_word(machine), rank_word(machine) if least == 1 else None)
            ranks.add(least)
        self.assertLessEqual({1, 2, 3, 4, 7, 8}, ranks)

    def test_ranks(self):
        self.assertEqual([rank(((0,),)), rank_word(((0,),)), rank_sets(((0,),))], [1, (), ((0,),)])
        self.assertEqual([rank(SWITCH), rank_word(SWITCH), rank_sets(SWITCH)], [2, (), ((0, 1),)])
        machine = ((1,), (2,), (1,), (0,))
        self.assertEqual([rank(machine), rank_word(machine), rank_sets(machine)], [2, (0, 0), ((1, 2),)])
        self.assertEqual(rank_sets(slow(8)), tuple((state,) for state in range(8)))
        self.assertEqual(len(rank_word(slow(8))), 49)
        machine = ((1, 0), (0, 1), (3, 0), (2, 1))
        self.assertEqual([rank(machine), rank_word(machine), rank_sets(machine)], [2, (1,), ((0, 1),)])
        machine = ((0, 2), (1, 3), (1, 2), (0, 3))
        self.assertEqual([rank(machine), rank_word(machine), rank_sets(machine)], [2, (0,), ((0, 1), (2, 3))])


if __name__ == "__main__":
    unittest.main()
