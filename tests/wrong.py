"""Values that are not allowed, of every kind that point 1 names, and what is raised for them."""

from shiftcore.errors import (BadBars, BadChain, BadCode, BadLength, BadLetters, BadMachine, BadMatrix, BadNumber,
                              BadParts, BadPattern, BadPolynomial, BadRoads, BadRule, BadSplit, BadState, BadTable,
                              BadTurns, BadWeb, BadWeights, BadWord, NotText)

ODD = [-1, 10 ** 30, "", "a", "0", True, False, None, [], [1], {}, {"a": 1}, {0: (0, ())}]
LOOP = (0, 0, 0)

WEBS = [(value, None) for value in ODD + [0, 1, (), (1,), (1, (), ()), (0, (), ())]]
WEBS += [([1, ()], None), ((-1, ()), None), ((33, ()), None), ((True, ()), None), ((False, ()), None)]
WEBS += [(("1", ()), None), ((None, ()), None), (((), ()), None), (((1,), ()), None), ((10 ** 30, ()), None)]
WEBS += [((1, value), None) for value in ODD + [0, [LOOP], {LOOP: LOOP}, "0 0 0"]]
WEBS += [((32, tuple((s, e, 0) for s in range(32) for e in range(4))[:101]), None)]
WEBS += [((2, (None,) * 101), None), ((33, (None,)), None), ((2, [None]), None)]
WEBS += [((1, (value,)), 0) for value in ODD + [0, (), (0, 0), (0, 0, 0, 0), [0, 0, 0]]]
WEBS += [((2, (LOOP, value)), 1) for value in ODD + [0, (), (0, 1), (0, 1, 0, 0), [0, 1, 0]]]
WEBS += [((2, (edge,)), 0) for edge in [(2, 0, 0), (0, 2, 0), (0, 0, 4), (-1, 0, 0), (0, -1, 0), (0, 0, -1)]]
WEBS += [((2, (LOOP, edge)), 1) for edge in [(True, 0, 0), (1, False, 0), (1, 0, True), ("1", 0, 0), (1, None, 0)]]
WEBS += [((2, (LOOP, edge)), 1) for edge in [(1, 0, (0,)), (1, 0, [0]), (1, {}, 0), (10 ** 30, 0, 0), LOOP]]
WEBS += [((2, ((0, 1, 0), (0, 0, 3))), 1), ((2, ((1, 0, 0), (0, 1, 1))), 1), ((0, (LOOP,)), 0)]
WEBS += [((2, ((0, 0, 1), (0, 0, 2), (0, 0, 1), None)), 2), ((2, (LOOP, (0, 0, 1), (0, 0, 1), (0, 0, 9))), 2)]
WEBS += [((2, tuple((0, 0, a) for a in range(4)) + (None,) * 96), 4), ((1, (LOOP,) * 100), 1)]

WORDS = [(value, None) for value in ODD + [0, 1, [0, 1], (4,), (-1,), (0, True), (False,), ("0",), (0, None)]]
WORDS += [((0,) * 61, None), ((0, (1,)), None), (([],), None), ((0, 1, 10 ** 30), None), (({},), None)]


def lengths(low, high):
    """Return values that are not integers from low to high."""
    found = ODD + [low - 1, high + 1, (low,), [low], {low: low}, str(low), -10 ** 30]
    return [(value, None) for value in found if isinstance(value, bool) or value not in range(low, high + 1)]


POLYNOMIALS = [(value, None) for value in ODD + [0, 1, (), (0,), (-1,), (2,), (0, 1), (1, 0), (1, 1, 0), [1, 1]]]
POLYNOMIALS += [((1, value), None) for value in ["1", True, None, (1,), [1], {}, 1000001, -1000001, 10 ** 30]]
POLYNOMIALS += [((1,) + (0,) * 40 + (1,), None), ((True,), None), ((True, 1), None), ((1, False, 1), None)]

TEXTS = [(value, None) for value in ODD + [0, 2, ("0",), ["0"]] if not isinstance(value, str)]

BARS = [(value, None) for value in ODD + [0, 1, [(1,)], ((0,),) * 9]]
BARS += [((value,), 0) for value in ODD + [0, (), (2,), (0, 2), (-1,), (0,) * 5, (True,), (0, False), [0], ("0",)]]
BARS += [(((0,), value), 1) for value in ODD + [0, (), (1, 2), (0, 1, 0, 1, 0), (None,), ((0,),), [1]]]
BARS += [(((1, 1, 1, 1), (0,), (0,), (3,)), 3), (((0,),) * 7 + ((),), 7), (((), (), ()), 0)]

MATRICES = [(value, None) for value in ODD + [0, 1, (), (1,), ((),), [[1]], [(1,)], ([1],), ((1, 0),), ((1,), (0,))]]
MATRICES += [(value, None) for value in [((1, 0), (0,)), ((1, 0), [0, 1]), ((1, 0), 1), ((0,) * 7,) * 7, (None,)]]
MATRICES += [(((value,),), None) for value in ODD + [21, (1,), 10 ** 9]]
MATRICES += [(((1, 2), (3, value)), None) for value in ODD + [21, (0,)]]
MATRICES += [(((value, 2), (3, 0)), None) for value in (-1, 21, True, False, None, "1")]

# For the matrix and the machine of two states below.
STATES = [(value, None) for value in ODD + [2, 3, (0,), [0], {0: 0}, "1", -2]]

# For the row (2, 1).
SPLITS = [(value, None) for value in ODD + [0, 1, (), (1,), (2, 1), (0, 0), (3, 0), (0, 2), (-1, 1), (1, -1)]]
SPLITS += [(value, None) for value in [(1, 0, 0), [1, 0], (True, 0), (1, False), (None, 1), ("1", 0), ((1,), 0)]]
SPLITS += [((2, 10 ** 30), None), ((1, [0]), None), ((False, False), None), ((2, True), None)]

MACHINES = [(value, None) for value in ODD + [0, 1, (), (0,), ((),), ((), ()), [(0,)], ([0],), ((0, 0, 0, 0),)]]
MACHINES += [(value, None) for value in [((0,),) * 9, ((0,), (0, 1)), ((0, 1), (1,)), ((0,), [0]), ((0,), 0)]]
MACHINES += [(((0, 1), (1, value)), None) for value in ODD + [2, (0,)]]
MACHINES += [(((value,),), None) for value in ODD + [1, (0,)]]

ROADS = [(value, None) for value in ODD + [0, 1, (), [(0, 0)], ((0, 0),) * 6]]
ROADS += [((value,), 0) for value in ODD + [0, 1, (), (0,), (0, 0, 0, 0), [0, 0], (0, 1), (0, True), (False, 0)]]
ROADS += [(((0, 1), value), 1) for value in ODD + [0, (), (0,), (0, 0, 1), (1, 0), (0, 2), [0, 1], (0, True)]]
ROADS += [(((0, 1), (0, value)), 1) for value in ODD + [2, (1,)]]

RULES = [(value, None) for value in ODD + [0, (), (2,), (2, 2), (2, 1, (0, 1), 0), [2, 1, (0, 1)]]]
RULES += [((value, 1, (0, 1)), None) for value in ODD + [0, 1, 3, 4, (2,)]]
RULES += [((2, value, (0, 1)), None) for value in ODD + [0, 2, 5, 6, (1,)] if value is not True]
RULES += [((2, True, (0, 1)), None), ((2, 6, (0,) * 64), None), ((2, 1, (0, 0, 0)), None), ((3, 5, (0,) * 242), None)]
RULES += [((2, 1, value), None) for value in ODD + [0, (), (0,), [0, 1], "01"]]
RULES += [((2, 1, (0, value)), None) for value in ODD + [2, (0,)]]

LETTER_WEIGHTS = [(value, None) for value in ODD + [0, 1, (), (0,), (0, 0, 0), [0, 1], "01"]]
LETTER_WEIGHTS += [((0, value), None) for value in ODD + [10, -10, (0,)] if value != -1]
LETTER_WEIGHTS += [((value, 0), None) for value in (True, False, None, 10, -10)]

PATTERNS = [(value, None) for value in ODD + [0, 1, (), (1,), (0, 1), (1, 1), (1, 0, 2), (1, 2, 1), (2, 2, 0), [1, 0]]]
PATTERNS += [((1, value), None) for value in ODD + [1, 2, (0,)]]
PATTERNS += [((1, 2, 3, 4, 5, 6, 7, 8, 9, 0), None), ((True, 0), None), ((2, 3, 0, 1), None), ((False,), None)]

TURNS = [(value, None) for value in ODD + [0, 1, (), (0,) * 9, [0, 1], "01", ((0,),), ("0",), (None,), (True,)]]
TURNS += [((0, value), None) for value in ODD + [41, -41, (0,)] if value != -1]

TABLES = [(value, None) for value in ODD + [0, 1, (), ((0,),), ((0,),) * 4, [(0,), (1,)], ((0,), ()), ("0", "1")]]
TABLES += [(((0, 1), value), None) for value in ODD + [0, (), (2,), (-1,), (0,) * 5, [0], ("0",), ((0,),), (True,)]]

CHAINS = [(value, None) for value in ODD + [0, 1, (), (1,), ((),), [(1,)], ([1],), ((0,),), ((1, 1),), ((1,), (1,))]]
CHAINS += [(((1, 2), value), None) for value in ODD + [0, (), (1,), (0, 0), (1, 1, 1), [1, 1], (1, 21), (-1, 1)]]
CHAINS += [(((1, 2), (3, value)), None) for value in ODD + [21, (0,)]] + [(((1,) * 6,) * 6, None)]

# For a chain of two states.
PARTS = [(value, None) for value in ODD + [0, 1, (), (0, 1), ((0,),), ((1,), (0,)), ((1, 0),), ((0, 1), ())]]
PARTS += [(((0,), value), None) for value in ODD + [1, (), (0,), (2,), (0, 1), [1], (True,), ("1",), (None,), (1, 1)]]

# For a web that reads two words of the window.
CODES = [(value, None) for value in ODD + [0, 1, (), (0,), (0, 1, 2), [0, 1], "01", {0: 0, 1: 1}]]
CODES += [((0, value), None) for value in ODD + [4, (0,)]]

ANYTHING = [(value, None) for value in ODD + [0, 1, (), (1,), ((),), ((1,),), ((0, 1), (1, 0)), ((None,), ([],))]]

KINDS = {
    "web": (BadWeb, WEBS, (2, ((0, 0, 0), (0, 1, 1), (1, 0, 0)))),
    "word": (BadWord, WORDS, (0, 1)),
    "length 0 to 8": (BadLength, lengths(0, 8), 3),
    "text": (NotText, TEXTS, "0"),
    "letters": (BadLetters, lengths(1, 3), 2),
    "bars": (BadBars, BARS, ((1, 1),)),
    "length 0 to 200": (BadLength, lengths(0, 200), 5),
    "length 1 to 60": (BadLength, lengths(1, 60), 5),
    "length 0 to 60": (BadLength, lengths(0, 60), 5),
    "length 0 to 12": (BadLength, lengths(0, 12), 5),
    "polynomial": (BadPolynomial, POLYNOMIALS, (1, -1, -1)),
    "matrix": (BadMatrix, MATRICES, ((2, 1), (1, 0))),
    "length 0 to 40": (BadLength, lengths(0, 40), 5),
    "state": (BadState, STATES, 0),
    "split": (BadSplit, SPLITS, (1, 0)),
    "any": (None, ANYTHING, ((0, 1), (1, 0))),
    "word of 1": (BadWord, WORDS + [((), None)], (0, 1)),
    "machine": (BadMachine, MACHINES, ((1, 1), (0, 1))),
    "roads": (BadRoads, ROADS, ((0, 1), (0, 0))),
    "rule": (BadRule, RULES, (2, 2, (0, 1, 0, 1))),
    "word of 2": (BadWord, WORDS + [((), None), ((0,), None), ((0, 2), None), ((3, 0), None)], (0, 1)),
    "letter weights": (BadWeights, LETTER_WEIGHTS, (0, 5)),
    "length 0 to 1": (BadLength, lengths(0, 1), 1),
    "pattern": (BadPattern, PATTERNS, (1, 2, 0)),
    "number 1 to 1000000": (BadNumber, lengths(1, 1000000), 5),
    "number 1 to 60": (BadNumber, lengths(1, 60), 5),
    "number 1 to 6": (BadNumber, lengths(1, 6), 5),
    "turns": (BadTurns, TURNS, (0, 1, 2)),
    "number -100 to 100": (BadNumber, lengths(-100, 100), 1),
    "number 1 to 12": (BadNumber, lengths(1, 12), 3),
    "length 1 to 4": (BadLength, lengths(1, 4), 2),
    "table": (BadTable, TABLES, ((0, 1), (0,))),
    "word of letters": (BadWord, WORDS + [((0,) * 21, None), ((2,), None), ((0, 3), None)], (0, 1)),
    "length 0 to 6": (BadLength, lengths(0, 6), 2),
    "chain": (BadChain, CHAINS, ((0, 1), (1, 1))),
    "state but 0": (BadState, STATES + [(0, None)], 1),
    "parts": (BadParts, PARTS, ((0,), (1,))),
    "length 1 to 3": (BadLength, lengths(1, 3), 1),
    "code": (BadCode, CODES, (0, 1)),
    "length 1 to 8": (BadLength, lengths(1, 8), 3),
    "odd number 3 to 9": (BadNumber, lengths(3, 9) + [(1, None), (4, None), (6, None), (8, None), (11, None)], 5),
}
