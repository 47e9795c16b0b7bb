"""Points 19 and 20: rules that rewrite rows of letters, their orphans, kept weights and moved sequences."""

import unittest
from itertools import product
from random import Random

from shiftcore.errors import BadLength, BadLetters, BadRule, BadWeights, BadWord
from shiftcore.rules import composed, current, image, orphan, rule_web, still_web
from tests import limits, plain
from tests.cases import WithLimits


def rule_of(letters, width, entry):
    """Return the rule with the letters that a function gives for words."""
    return letters, width, tuple(entry(word) for word in product(range(letters), repeat=width))


def random_rules(seed, many, letters, width):
    """Return so many rules; the same ones for the same seed."""
    rng = Random(seed)
    return [rule_of(letters, width, lambda _: rng.randrange(letters)) for _ in range(many)]


def numbered(number):
    """Return the rule of 2 letters and the width 3 with the entries that the bits of a number tell."""
    return rule_of(2, 3, lambda word: number >> (4 * word[0] + 2 * word[1] + word[2]) & 1)


SAME = (2, 1, (0, 1))
SWAP = (2, 1, (1, 0))
SAME_THREE = (3, 1, (0, 1, 2))
TURN_THREE = (3, 1, (1, 2, 0))
SUM = (2, 2, (0, 1, 1, 0))
BOTH = (2, 2, (0, 0, 0, 1))
NEXT = (2, 2, (0, 1, 0, 1))
TRAFFIC = numbered(184)
FIRST = rule_of(2, 5, lambda word: word[0])
LAST = rule_of(2, 5, lambda word: word[4])
SUM_THREE = rule_of(3, 3, lambda word: sum(word) % 3)
SMALL = [(2, 1, table) for table in product((0, 1), repeat=2)] + [(2, 2, table) for table in product((0, 1), repeat=4)]
SMALL += [numbered(number) for number in range(256)]
THREE = [(3, 1, table) for table in product((0, 1, 2), repeat=3)]
THREE += random_rules(1, 40, 3, 2) + random_rules(2, 10, 3, 3)
WIDE = [TRAFFIC, FIRST, LAST, SUM_THREE] + random_rules(3, 10, 2, 4) + random_rules(4, 10, 2, 5)
WIDEST = random_rules(5, 3, 3, 4) + random_rules(6, 3, 3, 5)


def entries(rule):
    """Return the dict of the entries of a rule for the words of its width."""
    letters, width, table = rule
    return dict(zip(product(range(letters), repeat=width), table))


def made_of(rule, word):
    """Return what a rule makes of a word, letter by letter."""
    found = entries(rule)
    return tuple(found[word[at:at + rule[1]]] for at in range(len(word) - rule[1] + 1))


def around(rule, word):
    """Return what a rule makes of the sequence that repeats a word, as a word of the same length."""
    found = entries(rule)
    many = len(word)
    return tuple(found[tuple(word[(at + by) % many] for by in range(rule[1]))] for at in range(many))


def all_words(letters, length):
    """Return all words of a length over so many letters, in ascending order."""
    return list(product(range(letters), repeat=length))


class Images(unittest.TestCase):
    def test_letter_by_letter(self):
        rng = Random(19)
        for rule in SMALL + THREE + WIDE + WIDEST:
            letters, width, _ = rule
            for length in (width, width + 1, 9, 60):
                word = tuple(rng.randrange(letters) for _ in range(length))
                self.assertEqual(image(rule, word), made_of(rule, word))
                self.assertEqual(len(image(rule, word)), length - width + 1)
        for rule in SMALL[:20] + THREE[:30]:
            for word in all_words(rule[0], rule[1]):
                self.assertEqual(image(rule, word), (entries(rule)[word],))

    def test_images(self):
        self.assertEqual(image(SUM, (0, 1, 1, 0, 1)), (1, 0, 1, 1))
        self.assertEqual(image(SWAP, (0,)), (1,))
        self.assertEqual(image(FIRST, (1, 0, 0, 0, 0)), (1,))
        self.assertEqual(image(LAST, (1, 0, 0, 0, 0)), (0,))
        self.assertEqual(image(TURN_THREE, (0, 1, 2)), (1, 2, 0))
        self.assertEqual(image(SAME, (1,) * 60), (1,) * 60)

    def test_wrong_words(self):
        for rule in (SAME, SUM, TRAFFIC, FIRST, SUM_THREE):
            letters, width, _ = rule
            for word in [(0,) * 61, (0,) * (width - 1), (letters,) * width, (0,) * width + (-1,), (True,) * width,
                         [0] * 5,
                         (0,) * width + (False,), "00000", None, (0,) * width + ("0",), ((0,),) * width, (), 0]:
                self.assertRaises(BadWord, image, rule, word)
                self.assertRaises(BadRule, image, rule[:2], word)
        self.assertEqual(image(SUM_THREE, (2, 2, 2)), (0,))

    def test_wrong_rules(self):
        for rule in [(2, 1), (2, 1, (0, 1), 0), [2, 1, (0, 1)], (1, 1, (0,)), (4, 1, (0, 1, 2, 3)), (2, 0, (0,)),
                     (2, 6, (0,) * 64), (3, 6, (0,) * 729), (2, 1, (0,)), (2, 1, (0, 1, 0)), (2, 1, (0, 2)),
                     (3, 1, (0, 1)), (2, 1, (0, -1)), (2, 1, [0, 1]), (2, 1, (0, True)), (2, True, (0, 1)),
                     (True, 1, (0,)), ("2", 1, (0, 1)), (2, "1", (0, 1)), (2, 1, "01"), (None, 1, (0, 1)), (2, 1, None),
                     (2, 2, (0,) * 8), (3, 2, (0,) * 4), (2, -1, ()), (3, 5, (0,) * 242), (3, 5, (0,) * 244),
                     (3, 1, (0, 1, 3)), (2, 10 ** 9, ()), "abc"]:
            for function, rest in [(image, (None,)), (rule_web, ()), (composed, (None,)), (orphan, ()),
                                   (current, (None,)), (still_web, (None,))]:
                self.assertRaises(BadRule, function, rule, *rest)
            self.assertRaises(BadRule, composed, SAME, rule)
        self.assertEqual(image((3, 5, (0,) * 243), (2,) * 5), (0,))
        self.assertEqual(image((2, 5, (1,) * 32), (0,) * 5), (1,))


class Webs(WithLimits):
    def test_edges_word_by_word(self):
        for rule in SMALL[:40] + THREE + WIDE + WIDEST[:3]:
            letters, width, _ = rule
            states = all_words(letters, width - 1)
            edges = {(states.index(word[:-1]), states.index(word[1:]), entry) for word, entry in entries(rule).items()}
            self.assertEqual(rule_web(rule), (len(states), tuple(sorted(edges))))

    def test_reads_the_images(self):
        for rule in SMALL[:50] + THREE[::3]:
            letters, width, _ = rule
            for length in range(4):
                made = {made_of(rule, word) for word in all_words(letters, length + width - 1)}
                self.assertEqual(plain.core_words(rule_web(rule), length), made)

    def test_webs(self):
        self.assertEqual(rule_web(SWAP), (1, ((0, 0, 0), (0, 0, 1))))
        self.assertEqual(rule_web((2, 1, (1, 1))), (1, ((0, 0, 1),)))
        self.assertEqual(rule_web((3, 1, (2, 0, 2))), (1, ((0, 0, 0), (0, 0, 2))))
        self.assertEqual(rule_web(SUM), (2, ((0, 0, 0), (0, 1, 1), (1, 0, 1), (1, 1, 0))))

    def test_too_many_states(self):
        for rule in WIDEST[3:]:
            self.check_too_many(32, rule_web, rule)
            self.check_too_many(32, orphan, rule)
            for shift in range(5):
                self.check_too_many(32, still_web, rule, shift)
            self.assertRaises(BadLength, still_web, rule, 5)
            self.assertRaises(BadWeights, current, rule, (0, 0))
            self.assertIsNone(current(rule, (0, 1, 0)))
        # The largest web has 27 states and 81 edges, so that there are never too many edges.
        many, edges = rule_web(WIDEST[0])
        self.assertEqual([many, len(edges)], [27, 81])
        self.assertEqual([len(rule_web(FIRST)[1]), rule_web(FIRST)[0]], [32, 16])


class Composed(WithLimits):
    def test_one_behind_the_other(self):
        rng = Random(20)
        for rules in (SMALL[::9] + WIDE[4:8], THREE[::4]):
            for one, other in product(rules, repeat=2):
                letters, width = one[0], one[1] + other[1] - 1
                if width > 5:
                    continue
                found = composed(one, other)
                self.assertEqual(found[:2], (letters, width))
                for length in (width, width + 1, width + 6):
                    word = tuple(rng.randrange(letters) for _ in range(length))
                    self.assertEqual(image(found, word), made_of(other, made_of(one, word)))

    def test_all_words(self):
        for one, other in [(SUM, BOTH), (BOTH, SUM), (TRAFFIC, SUM), (SUM_THREE, SUM_THREE), (TRAFFIC, TRAFFIC)]:
            found = composed(one, other)
            self.assertEqual([found[2][at] for at in range(len(found[2]))],
                             [made_of(other, made_of(one, word))[0] for word in all_words(one[0], found[1])])

    def test_order(self):
        self.assertEqual(composed((2, 1, (0, 0)), SWAP), (2, 1, (1, 1)))
        self.assertEqual(composed(SWAP, (2, 1, (0, 0))), (2, 1, (0, 0)))
        self.assertNotEqual(composed(BOTH, SUM), composed(SUM, BOTH))
        self.assertEqual(composed(SWAP, SWAP), SAME)
        self.assertEqual(composed(NEXT, NEXT), rule_of(2, 3, lambda word: word[2]))
        for rule in WIDE + WIDEST + THREE:
            same = SAME if rule[0] == 2 else SAME_THREE
            self.assertEqual([composed(rule, same), composed(same, rule)], [rule, rule])

    def test_widths(self):
        two = {width: rule_of(2, width, lambda word: word[0]) for width in range(1, 6)}
        for one, other in product(range(1, 6), repeat=2):
            if one + other <= 6:
                self.assertEqual(composed(two[one], two[other]), two[one + other - 1])
            else:
                self.check_too_many(5, composed, two[one], two[other])
        self.assertEqual(composed(WIDEST[3], TURN_THREE)[1], 5)
        self.check_too_many(5, composed, WIDEST[0], WIDEST[3])

    def test_unlike_letters(self):
        for one, other in product([SAME, TRAFFIC, FIRST], [SAME_THREE, SUM_THREE, WIDEST[3]]):
            self.assertRaises(BadLetters, composed, one, other)
            self.assertRaises(BadLetters, composed, other, one)
            self.assertRaises(BadRule, composed, one, (3, 1, (0, 1, 3)))
            self.assertRaises(BadRule, composed, other, (2, 1, (0, 2)))


class Orphans(WithLimits):
    def test_by_all_words(self):
        found = set()
        for rule in SMALL[::2] + THREE + WIDE[:6]:
            letters, width, _ = rule
            word = orphan(rule)
            found.add(word is None)
            for length in range(7 - letters):
                made = {made_of(rule, there) for there in all_words(letters, length + width - 1)}
                if word is None or length < len(word):
                    self.assertEqual(len(made), letters ** length)
                elif length == len(word):
                    self.assertEqual(word, [there for there in all_words(letters, length) if there not in made][0])
        self.assertEqual(found, {False, True})

    def test_orphans_by_equal_numbers(self):
        # A rule has no orphan exactly if all words are the images of equally many words.
        for rule in SMALL + THREE:
            letters, width, _ = rule
            counts = {}
            for word in all_words(letters, width + 3):
                counts[made_of(rule, word)] = counts.get(made_of(rule, word), 0) + 1
            is_equal = set(counts.values()) == {letters ** (width - 1)}
            if not is_equal:
                self.assertIsNotNone(orphan(rule))
            if orphan(rule) is None:
                self.assertTrue(is_equal)

    def test_long_orphans(self):
        for rule in WIDE[:4] + SMALL + [limits.RULE_200, limits.RULE_THREE_200]:
            word = orphan(rule)
            if word is not None:
                self.assertFalse(plain.is_read(rule_web(rule), word))
                self.assertTrue(plain.is_read(rule_web(rule), word[1:]) and plain.is_read(rule_web(rule), word[:-1]))

    def test_orphans(self):
        for rule in (SAME, SWAP, SUM, NEXT, FIRST, LAST, TURN_THREE, SUM_THREE, numbered(30), numbered(90)):
            self.assertIsNone(orphan(rule))
        self.assertEqual([orphan((2, 1, (0, 0))), orphan((2, 1, (1, 1)))], [(1,), (0,)])
        self.assertEqual(orphan((3, 1, (0, 2, 2))), (1,))
        self.assertEqual(orphan(BOTH), (1, 0, 1))
        self.assertEqual(orphan(numbered(110)), (0, 1, 0, 1, 0))

    def test_too_many_sets(self):
        for rule in (limits.RULE_201, limits.RULE_THREE_201):
            self.check_too_many(200, orphan, rule)
        for rule in (limits.RULE_200, limits.RULE_THREE_200):
            self.assertFalse(plain.is_read(rule_web(rule), orphan(rule)))
        for rule, many in [(limits.RULE_200, 200), (limits.RULE_201, 201), (limits.RULE_THREE_200, 200),
                           (limits.RULE_THREE_201, 201)]:
            states, edges = rule_web(rule)
            met = [frozenset(range(states))]
            for here in met:
                for label in range(3):
                    there = frozenset(end for start, end, mark in edges if start in here and mark == label)
                    if there and there not in met:
                        met.append(there)
            self.assertEqual(len(met), many)


class Currents(unittest.TestCase):
    def check_current(self, rule, weights, most):
        letters, width, _ = rule
        found = current(rule, weights)
        is_kept = all(sum(weights[a] for a in around(rule, word)) == sum(weights[a] for a in word)
                      for length in range(1, most + 1) for word in all_words(letters, length))
        self.assertEqual(found is not None, is_kept)
        if found is not None:
            flow = dict(zip(all_words(letters, width - 1), found))
            self.assertEqual([len(found), found[0]], [letters ** (width - 1), 0])
            for word, entry in entries(rule).items():
                self.assertEqual(weights[entry] - weights[word[0]], flow[word[:-1]] - flow[word[1:]])

    def test_by_all_sequences_of_some_periods(self):
        for rule in SMALL:
            for weights in [(0, 1), (3, 3), (0, 0), (-9, 9), (2, -1)]:
                self.check_current(rule, weights, 4)
        for rule in THREE[:60]:
            for weights in [(0, 1, 2), (1, 1, 1), (0, 0, 1), (5, -5, 5)]:
                self.check_current(rule, weights, 3)

    def test_kept_weights(self):
        kept = [number for number in range(256) if current(numbered(number), (0, 1)) is not None]
        self.assertEqual(kept, [170, 184, 204, 226, 240])
        for rule in (composed(TRAFFIC, TRAFFIC), FIRST, LAST, composed(TRAFFIC, numbered(226))):
            self.check_current(rule, (0, 1), 7)
            self.assertIsNotNone(current(rule, (0, 1)))
        swapped = rule_of(3, 3, lambda word: {1: 2, 2: 1}.get(word[1], 0) if word[0] == 0 else word[1])
        for weights in [(4, 7, 7), (0, 1, 2), (1, 1, 0)]:
            self.check_current(swapped, weights, 4)

    def test_equal_weights(self):
        for rule in SMALL[::5] + THREE + WIDE + WIDEST:
            letters, width, _ = rule
            self.assertEqual(current(rule, (9,) * letters), (0,) * letters ** (width - 1))

    def test_currents(self):
        self.assertEqual([current(SAME, (0, 1)), current(SWAP, (0, 1)), current(SWAP, (1, 1))], [(0,), None, (0,)])
        self.assertEqual(current(TRAFFIC, (0, 1)), (0, 0, 0, -1))
        self.assertEqual(current(NEXT, (-9, 9)), (0, -18))
        self.assertEqual(current(rule_of(2, 3, lambda word: word[2]), (1, 4)), (0, -3, -3, -6))
        self.assertEqual(current(rule_of(2, 3, lambda word: word[0]), (1, 4)), (0, 0, 0, 0))
        self.assertEqual(len(current(rule_of(3, 5, lambda word: word[4]), (0, 1, 2))), 81)
        self.assertEqual(current(TURN_THREE, (2, 2, 2)), (0,))
        self.assertIsNone(current(TURN_THREE, (2, 2, 3)))

    def test_wrong_weights(self):
        for weights in [(0,), (0, 1, 2), (), (0, 10), (-10, 0), (0, True), (False, 1), [0, 1], "01", None,
                        (0, "1"), (0, None),
                        (0, (1,)), {0: 1}, 0, (0, 10 ** 30)]:
            for rule in (SAME, SUM, TRAFFIC):
                self.assertRaises(BadWeights, current, rule, weights)
            self.assertRaises(BadRule, current, (2, 1, (0, 2)), weights)
        self.assertRaises(BadWeights, current, SUM_THREE, (0, 1))


class Still(WithLimits):
    def test_web_word_by_word(self):
        for rule in SMALL[:60] + THREE[::2] + WIDE + WIDEST[:2]:
            letters, width, _ = rule
            states = all_words(letters, width - 1)
            for shift in range(width):
                edges = [(states.index(word[:-1]), states.index(word[1:]), word[0])
                         for word, entry in entries(rule).items() if entry == word[shift]]
                kept, edges = plain.core((len(states), tuple(edges)))
                number = {state: at for at, state in enumerate(sorted(kept & {edge[0] for edge in edges}))}
                expected = sorted((number[start], number[end], label) for start, end, label in edges)
                self.assertEqual(still_web(rule, shift), (len(number), tuple(expected)))

    def test_by_all_words_of_some_periods(self):
        for rule in SMALL[::7] + THREE[::5] + WIDE[4::5]:
            letters, width, _ = rule
            for shift in range(width):
                web = still_web(rule, shift)
                for length in range(1, 5):
                    for word in all_words(letters, length):
                        is_moved = around(rule, word) == tuple(word[(at + shift) % length] for at in range(length))
                        self.assertIs(plain.is_read(web, word * 20), is_moved)

    def test_webs(self):
        self.assertEqual([still_web(SAME, 0), still_web(SWAP, 0)], [(1, ((0, 0, 0), (0, 0, 1))), (0, ())])
        self.assertEqual(still_web((3, 1, (0, 0, 2)), 0), (1, ((0, 0, 0), (0, 0, 2))))
        self.assertEqual(still_web(SUM, 0), (1, ((0, 0, 0),)))
        self.assertEqual(still_web(SUM, 1), (1, ((0, 0, 0),)))
        self.assertEqual(still_web(NEXT, 1), (2, ((0, 0, 0), (0, 1, 0), (1, 0, 1), (1, 1, 1))))
        self.assertEqual(still_web(NEXT, 0), (2, ((0, 0, 0), (1, 1, 1))))
        self.assertEqual(still_web(BOTH, 0), (2, ((0, 0, 0), (0, 1, 0), (1, 1, 1))))
        self.assertEqual(still_web(BOTH, 1), (2, ((0, 0, 0), (1, 0, 1), (1, 1, 1))))

    def test_wrong_shifts(self):
        for rule in (SAME, SUM, TRAFFIC, FIRST):
            width = rule[1]
            self.assertEqual(len(still_web(rule, width - 1)), 2)
            for shift in (width, -1, True, False, None, "0", (0,), 10 ** 30):
                self.assertRaises(BadLength, still_web, rule, shift)
                self.assertRaises(BadRule, still_web, (2, 1, (0, 2)), shift)


if __name__ == "__main__":
    unittest.main()
