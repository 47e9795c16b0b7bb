"""The examples of the interface, word for word."""

import unittest

WEBS = """
>>> from shiftcore.webs import essential, reads, words
>>> web = (3, ((0, 0, 0), (0, 1, 1), (1, 0, 0), (1, 2, 1)))
>>> [essential(web), words(web, 2), reads(web, (1, 1))]
[(2, ((0, 0, 0), (0, 1, 1), (1, 0, 0))), ((0, 0), (0, 1), (1, 0)), False]
"""
PARTS = """
>>> from shiftcore.parts import is_whole, parts, period, turns
>>> ring = (4, ((0, 1, 0), (1, 2, 0), (2, 3, 0), (3, 0, 0)))
>>> [parts((2, ((0, 1, 0),))), is_whole(ring), period(ring), turns(ring)]
[(), True, 4, ((0,), (1,), (2,), (3,))]
"""
WEBTEXT = """
>>> from shiftcore.webtext import read_web, write_web
>>> [write_web((2, ((0, 0, 1), (0, 1, 0), (1, 0, 0)))), read_web(' 2;0  0 1 ;0 1 0')]
['2; 0 0 1; 0 1 0; 1 0 0', (2, ((0, 0, 1), (0, 1, 0)))]
"""
WEBTEXT_ERROR = """
>>> from shiftcore.webtext import read_web
>>> read_web('2; 0 1 0; 0 0 1')
raises InvalidText(10)
"""
BARS = """
>>> from shiftcore.bars import least_bars, step, web_of_bars
>>> golden = web_of_bars(2, ((1, 1),))
>>> [golden, least_bars(golden), step(golden), step((2, ((0, 0, 1), (0, 1, 0), (1, 0, 0))))]
[(2, ((0, 0, 0), (0, 1, 1), (1, 0, 0))), ((2,), (3,), (1, 1)), 1, None]
"""
READERS = """
>>> from shiftcore.readers import cover, magic_word, parting_word, reader
>>> even = (2, ((0, 0, 1), (0, 1, 0), (1, 0, 0)))
>>> [reader(even), magic_word(even), cover(even), parting_word((2, ((0, 0, 0), (0, 1, 1), (1, 0, 0))), even)]
[((0, 1, None, None), (2, 1, None, None), (1, None, None, None)), (1,), ((1, 0, None, None), (0, None, None, None)), (1, 1)]
"""
COUNTING = """
>>> from shiftcore.counting import count_periodic, power_sums, zeta
>>> even = (2, ((0, 0, 1), (0, 1, 0), (1, 0, 0)))
>>> [[count_periodic(even, n) for n in (1, 2, 3, 4, 5)], zeta(even), power_sums((1, 1), (1, -1, -1), 5)]
[[2, 2, 5, 6, 12], ((1, 1), (1, -1, -1)), (2, 2, 5, 6, 12)]
"""
GROWTH = """
>>> from shiftcore.growth import compare_growth, growth_floor
>>> golden = (2, ((0, 0, 0), (0, 1, 1), (1, 0, 0)))
>>> [growth_floor(golden, 6), compare_growth(golden, (2, ((0, 0, 1), (0, 1, 0), (1, 0, 0))))]
[1618033, 0]
"""
MATRICES = """
>>> from shiftcore.matrices import cycle_group, cycle_sign, edge_polynomial, same_flow, traces
>>> [cycle_group(((1, 2), (2, 1))), cycle_group(((1,),)), cycle_sign(((2,),)), same_flow(((2,),), ((1, 1), (1, 0))), edge_polynomial(((1, 1), (1, 0))), traces(((1, 1), (1, 0)), 5)]
[((2, 2), 0), ((), 1), -1, True, (1, -1, -1), (1, 3, 4, 7, 11)]
"""
MOVES = """
>>> from shiftcore.moves import amalgamated, split, stretched
>>> [amalgamated(((1, 1), (1, 1))), split(((2,),), 0, (1,)), stretched(((2,),), 0, 0)]
[((2,),), ((1, 1), (1, 1)), ((1, 1), (1, 0))]
"""
CODES = """
>>> from shiftcore.codes import degree, degree_word, delay, lifts, shows_diamond
>>> turn = (2, ((0, 1, 0), (0, 1, 1), (1, 0, 0), (1, 0, 1)))
>>> late = (3, ((0, 1, 0), (0, 2, 0), (1, 0, 1), (2, 0, 2)))
>>> [degree(turn), degree_word(turn), lifts(turn, (0,)), delay(late), shows_diamond((2, ((0, 0, 0), (0, 1, 0), (1, 0, 0))), ((0, 0), (1, 2)))]
[2, (), 2, 1, True]
"""
MACHINES = """
>>> from shiftcore.machines import rank, rank_sets, reset_word
>>> [reset_word(((1, 1), (2, 1), (3, 2), (0, 3))), rank(((1,), (0,))), rank_sets(((0, 1), (0, 1)))]
[(1, 0, 0, 0, 1, 0, 0, 0, 1), 2, ((0,), (1,))]
"""
ROADS = """
>>> from shiftcore.roads import coloring, weights
>>> [coloring(((1, 1), (0, 0))), weights(((0, 1), (0, 0)))]
[None, (2, 1)]
"""
RULES = """
>>> from shiftcore.rules import current, image, orphan
>>> wide = (2, 3, (0, 1, 1, 0, 1, 0, 0, 1))
>>> [image(wide, (0, 1, 1, 0, 1)), orphan((2, 2, (0, 0, 0, 1))), orphan((2, 2, (0, 1, 1, 0))), current((2, 2, (0, 1, 0, 1)), (0, 5))]
[(0, 0, 0), (1, 0, 1), None, (0, -5)]
"""
PATTERNS = """
>>> from shiftcore.patterns import count_cycles, doubled, kind, pattern_web, stefan
>>> [kind((1, 2, 3, 0)), kind((2, 3, 1, 0)), stefan(5), doubled((1, 0)), pattern_web((1, 2, 0)), [count_cycles((1, 2, 0), k) for k in (1, 2, 3, 4, 5, 6)]]
[3, 4, (2, 4, 3, 1, 0), (3, 2, 0, 1), (2, ((0, 1, 0), (1, 0, 0), (1, 1, 0))), [1, 1, 1, 1, 2, 2]]
"""
FORCING = """
>>> from shiftcore.forcing import forces, shown
>>> [shown((1, 2, 0), 1), shown((1, 2, 0), 2), shown((1, 2, 0), 3), forces((1, 2, 0), (1, 0)), forces((1, 0), (1, 2, 0))]
[((0,),), ((1, 0),), ((1, 2, 0),), True, False]
"""
CIRCLE = """
>>> from shiftcore.circle import common_turn, has_turn, rotations, upper
>>> [upper((0, 3)), rotations((0, 3)), has_turn((0, 3), 1, 2), has_turn((1, 2), 2, 4), common_turn((1, 2, 3))]
[(1, 3), ((0, 1), (1, 1)), True, False, (1, 3)]
"""
RECODING = """
>>> from shiftcore.recoding import straightened, window
>>> late = (3, ((0, 1, 0), (0, 2, 0), (1, 0, 1), (2, 0, 2)))
>>> [straightened(late), window(late)]
[(3, ((0, 1, 1), (0, 2, 2), (1, 0, 0), (2, 0, 0))), 1]
"""
GROWING = """
>>> from shiftcore.growing import counts, grown, is_mingling, pieces
>>> table = ((0, 1), (0,))
>>> [grown(table, (0,), 4), counts(table), is_mingling(table), pieces(table, 2)]
[(0, 1, 0, 0, 1, 0, 1, 0), ((1, 1), (1, 0)), True, ((0, 0), (0, 1), (1, 0))]
"""
SHELF = """
>>> from shiftcore.shelf import Shelf
>>> shelf = Shelf()
>>> first = [shelf.put('a', (1, ((0, 0, 0),))), shelf.put('b', (2, ((0, 1, 0), (1, 0, 0))))]
>>> [shelf.classes(), shelf.least_for({'x': (1, ((0, 0, 1),)), 'y': (1, ((0, 0, 0),))}), shelf.undo(), shelf.names()]
[(('a', 'b'),), ('x',), None, ('a',)]
"""
CHAINS = """
>>> from shiftcore.chains import chance_first, expected_steps, mean_time, steady
>>> [steady(((0, 1), (1, 1))), expected_steps(((1, 1), (0, 1)), 0, 1), expected_steps(((1, 1), (0, 1)), 1, 0), chance_first(((0, 1, 2), (0, 1, 0), (0, 0, 1)), 0, 1, 2), mean_time(((0, 1), (1, 1)))]
[((1, 3), (2, 3)), (2, 1), None, (1, 3), (2, 3)]
"""
LUMPING = """
>>> from shiftcore.lumping import coarsest, is_two_way
>>> [is_two_way(((0, 1, 0), (0, 0, 1), (1, 0, 0))), coarsest(((0, 1, 1), (2, 0, 0), (1, 0, 0)), ((0,), (1, 2)))]
[False, ((0,), (1, 2))]
"""
CODING = """
>>> from shiftcore.coding import covers, first_code, first_cover
>>> full, golden = (1, ((0, 0, 0), (0, 0, 1))), (2, ((0, 0, 0), (0, 1, 1), (1, 0, 0)))
>>> [first_code(full, golden, 1), first_cover(full, golden, 2), first_cover(golden, full, 1), covers(golden, golden, 1, (0, 1))]
[(0, 0), (0, 0, 1, 0), None, True]
"""
FITTING = """
>>> from shiftcore.fitting import common_part, first_orbit, orbits_fit
>>> full, golden = (1, ((0, 0, 0), (0, 0, 1))), (2, ((0, 0, 0), (0, 1, 1), (1, 0, 0)))
>>> [orbits_fit(full, golden, 5), common_part(golden, (1, ((0, 0, 1),))), first_orbit(golden, 3)]
[1, 2, (0, 0, 1)]
"""
EXAMPLES = [WEBS, PARTS, WEBTEXT, WEBTEXT_ERROR, BARS, READERS, COUNTING, GROWTH, MATRICES, MOVES, CODES, MACHINES,
            ROADS, RULES, PATTERNS, FORCING, CIRCLE, RECODING, GROWING, SHELF, CHAINS, LUMPING, CODING,
            FITTING]


def outcome(text, names):
    """Return what an expression gives, as the examples write it."""
    try:
        return repr(eval(text, names))
    except ValueError as error:
        return f"raises {error.__class__.__name__}({', '.join(map(repr, vars(error).values()))})"


class Examples(unittest.TestCase):
    def test_examples(self):
        for example in EXAMPLES:
            names = {}
            *before, call, answer = example.strip().split("\n")
            for line in before:
                exec(line.removeprefix(">>> "), names)
            self.assertEqual(outcome(call.removeprefix(">>> "), names), answer)


if __name__ == "__main__":
    unittest.main()
