"""Rules that rewrite rows of letters: images, orphans, kept weights and sequences that are moved (points 19, 20)."""

from shiftcore.bars import all_words
from shiftcore.checks import LONGEST_WORD, MOST_STATES, check_length, is_between, is_word
from shiftcore.errors import BadLetters, BadRule, BadWeights, BadWord, TooMany
from shiftcore.readers import stray_word
from shiftcore.webs import trimmed

FEWEST_LETTERS = 2
MOST_LETTERS = 3
MOST_WIDTH = 5
MOST_WEIGHT = 9


def _check_rule(rule):
    """Raise BadRule unless a value is a rule."""
    if not isinstance(rule, tuple) or len(rule) != 3:
        raise BadRule("not a triple")
    letters, width, table = rule
    if not is_between(letters, FEWEST_LETTERS, MOST_LETTERS) or not is_between(width, 1, MOST_WIDTH):
        raise BadRule("not 2 or 3 letters, or not a width from 1 to 5")
    many = len(all_words(letters, width))
    if not is_word(table, many, many, letters):
        raise BadRule("not one letter for each word")


def image(rule, word):
    """Return the word that a rule makes of a word."""
    _check_rule(rule)
    if not is_word(word, rule[1], LONGEST_WORD, rule[0]):
        raise BadWord("not a tuple of letters, at least as many as the width and at most 60")
    return _made_of(rule, word)


def _made_of(rule, word):
    """Return the tuple of the entries for all pieces of a word that have the width."""
    letters, width, table = rule
    return tuple([table[_index(word[at:at + width], letters)] for at in range(len(word) - width + 1)])


def _index(word, letters):
    """Return the place of a word among all words of its length, in ascending order."""
    place = 0
    for letter in word:
        place = place * letters + letter
    return place


def rule_web(rule):
    """Return the web of the words of width - 1 letters, with an edge, labelled by its entry, for each word."""
    _check_rule(rule)
    many = _many_states(rule)
    edges = [_edge(rule, at, entry) for at, entry in enumerate(rule[2])]
    # The edges of words of one letter are equal where their entries are.
    return many, tuple(sorted(set(edges)))


def _many_states(rule):
    """Return the number of words of width - 1 letters, which may not be too many for a web."""
    many = len(all_words(rule[0], rule[1] - 1))
    # With so few states there are at most 81 words of the width, so that a web has room for their edges.
    if many > MOST_STATES:
        raise TooMany(MOST_STATES)
    return many


def _edge(rule, at, label):
    """Return the edge, with a label, from the first to the last width - 1 letters of the word at a place."""
    letters = rule[0]
    return at // letters, at % (len(rule[2]) // letters), label


def still_web(rule, shift):
    """Return the essential web of the sequences that a rule only moves by `shift` places."""
    _check_rule(rule)
    letters, width, table = rule
    check_length(shift, 0, width - 1)
    _many_states(rule)
    edges = []
    for at, word in enumerate(all_words(letters, width)):
        if table[at] == word[shift]:
            edges.append(_edge(rule, at, word[0]))
    return trimmed(edges)


def composed(one, other):
    """Return the rule that does first one rule and then another one."""
    _check_rule(one)
    _check_rule(other)
    letters = one[0]
    if letters != other[0]:
        raise BadLetters("unlike numbers of letters")
    width = one[1] + other[1] - 1
    if width > MOST_WIDTH:
        raise TooMany(MOST_WIDTH)
    return letters, width, tuple([_made_of(other, _made_of(one, word))[0] for word in all_words(letters, width)])


def orphan(rule):
    """Return the word, shorter, then smaller, that is no image of a word; None without one."""
    web = rule_web(rule)
    return stray_word(web, (1, tuple([(0, 0, letter) for letter in range(rule[0])])))


def current(rule, weights):
    """Return how weights of letters flow between words of width - 1 letters; None if a rule does not keep them."""
    _check_rule(rule)
    letters, width, table = rule
    _check_weights(weights, letters)
    zeros = (0,) * (width - 1)
    flow = {}
    for state in all_words(letters, width - 1):
        # On the way from the first state to this one only first letters 0 are met.
        made = _made_of(rule, (*zeros, *state))
        flow[state] = len(made) * weights[0] - sum(weights[letter] for letter in made)
    for word, entry in zip(all_words(letters, width), table):
        if weights[entry] - weights[word[0]] != flow[word[:-1]] - flow[word[1:]]:
            return None
    return tuple(flow.values())


def _check_weights(weights, letters):
    """Raise BadWeights unless a value is a tuple of integers from -9 to 9, one for each letter."""
    if not isinstance(weights, tuple) or len(weights) != letters:
        raise BadWeights("not a tuple of as many weights as letters")
    if not all(is_between(weight, -MOST_WEIGHT, MOST_WEIGHT) for weight in weights):
        raise BadWeights("not integers from -9 to 9")
