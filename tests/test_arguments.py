"""Point 1 for every function: wrong values in the place of each argument, and which error comes first."""

import unittest
from copy import deepcopy

from shiftcore import (bars, chains, circle, codes, coding, counting, errors, fitting, forcing, growing, growth,
                       lumping, machines, matrices, moves, parts, patterns, readers, recoding, roads, rules, webs,
                       webtext)
from tests import wrong

FUNCTIONS = [
    (webs.essential, ["web"]),
    (webs.reads, ["web", "word"]),
    (webs.words, ["web", "length 0 to 8"]),
    (webs.joint, ["web", "web"]),
    (webs.union, ["web", "web"]),
    (parts.parts, ["web"]),
    (parts.is_whole, ["web"]),
    (parts.period, ["web"]),
    (parts.turns, ["web"]),
    (webtext.write_web, ["web"]),
    (webtext.read_web, ["text"]),
    (bars.web_of_bars, ["letters", "bars"]),
    (bars.is_finite_kind, ["web"]),
    (bars.step, ["web"]),
    (bars.least_bars, ["web"]),
    (readers.reader, ["web"]),
    (readers.same_shift, ["web", "web"]),
    (readers.parting_word, ["web", "web"]),
    (readers.stray_word, ["web", "web"]),
    (readers.magic_word, ["web"]),
    (readers.cover, ["web"]),
    (readers.is_mixing, ["web"]),
    (counting.count_words, ["web", "length 0 to 200"]),
    (counting.count_periodic, ["web", "length 1 to 60"]),
    (counting.count_orbits, ["web", "length 1 to 60"]),
    (counting.zeta, ["web"]),
    (counting.power_sums, ["polynomial", "polynomial", "length 0 to 60"]),
    (growth.growth_floor, ["web", "length 0 to 12"]),
    (growth.compare_growth, ["web", "web"]),
    (growth.walks_floor, ["web", "length 0 to 12"]),
    (growth.compare_walks, ["web", "web"]),
    (matrices.is_ring, ["matrix"]),
    (matrices.cycle_group, ["matrix"]),
    (matrices.cycle_sign, ["matrix"]),
    (matrices.same_flow, ["matrix", "matrix"]),
    (matrices.traces, ["matrix", "length 0 to 40"]),
    (matrices.edge_polynomial, ["matrix"]),
    (moves.stretched, ["matrix", "state", "state"]),
    (moves.split, ["matrix", "state", "split"]),
    (moves.shows_step, ["matrix", "matrix", "any", "any"]),
    (moves.amalgamated, ["matrix"]),
    (moves.same_one_way, ["matrix", "matrix"]),
    (codes.is_resolving, ["web"]),
    (codes.delay, ["web"]),
    (codes.diamond, ["web"]),
    (codes.shows_diamond, ["web", "any"]),
    (codes.is_one_to_one, ["web"]),
    (codes.lifts, ["web", "word of 1"]),
    (codes.degree, ["web"]),
    (codes.degree_word, ["web"]),
    (machines.reset_word, ["machine"]),
    (machines.pair_word, ["machine", "state", "state"]),
    (machines.rank, ["machine"]),
    (machines.rank_word, ["machine"]),
    (machines.rank_sets, ["machine"]),
    (roads.coloring, ["roads"]),
    (roads.shows_coloring, ["roads", "any"]),
    (roads.weights, ["roads"]),
    (rules.image, ["rule", "word of 2"]),
    (rules.rule_web, ["rule"]),
    (rules.composed, ["rule", "rule"]),
    (rules.orphan, ["rule"]),
    (rules.current, ["rule", "letter weights"]),
    (rules.still_web, ["rule", "length 0 to 1"]),
    (patterns.pattern_web, ["pattern"]),
    (patterns.mirror, ["pattern"]),
    (patterns.doubled, ["pattern"]),
    (patterns.comes_before, ["number 1 to 1000000", "number 1 to 1000000"]),
    (patterns.has_period, ["pattern", "number 1 to 60"]),
    (patterns.kind, ["pattern"]),
    (patterns.stefan, ["odd number 3 to 9"]),
    (patterns.count_cycles, ["pattern", "number 1 to 60"]),
    (forcing.shown, ["pattern", "number 1 to 6"]),
    (forcing.forces, ["pattern", "pattern"]),
    (circle.is_rising, ["turns"]),
    (circle.after_turns, ["turns", "turns"]),
    (circle.upper, ["turns"]),
    (circle.lower, ["turns"]),
    (circle.rotation, ["turns"]),
    (circle.rotations, ["turns"]),
    (circle.has_turn, ["turns", "number -100 to 100", "number 1 to 12"]),
    (circle.common_turn, ["turns"]),
    (recoding.blocks, ["web", "length 1 to 4"]),
    (recoding.straightened, ["web"]),
    (recoding.window, ["web"]),
    (growing.grown, ["table", "word of letters", "length 0 to 12"]),
    (growing.counts, ["table"]),
    (growing.is_mingling, ["table"]),
    (growing.pieces, ["table", "length 0 to 6"]),
    (chains.steady, ["chain"]),
    (chains.expected_steps, ["chain", "state", "state"]),
    (chains.chance_first, ["chain", "state", "state", "state but 0"]),
    (chains.mean_time, ["chain"]),
    (lumping.is_two_way, ["chain"]),
    (lumping.is_even, ["chain", "any"]),
    (lumping.coarsest, ["chain", "parts"]),
    (coding.coded_web, ["web", "length 1 to 3", "code"]),
    (coding.carries, ["web", "web", "length 1 to 3", "code"]),
    (coding.covers, ["web", "web", "length 1 to 3", "code"]),
    (coding.first_code, ["web", "web", "length 1 to 3"]),
    (coding.first_cover, ["web", "web", "length 1 to 3"]),
    (fitting.orbits_fit, ["web", "web", "length 1 to 60"]),
    (fitting.common_part, ["web", "web"]),
    (fitting.first_orbit, ["web", "length 1 to 8"]),
]

INTERFACE = {
    "webs": "essential reads words joint union",
    "parts": "parts is_whole period turns",
    "webtext": "write_web read_web",
    "bars": "web_of_bars is_finite_kind step least_bars",
    "readers": "reader same_shift parting_word stray_word magic_word cover is_mixing",
    "counting": "count_words count_periodic count_orbits zeta power_sums",
    "growth": "growth_floor compare_growth walks_floor compare_walks",
    "matrices": "is_ring cycle_group cycle_sign same_flow traces edge_polynomial",
    "moves": "stretched split shows_step amalgamated same_one_way",
    "codes": "is_resolving delay diamond shows_diamond is_one_to_one lifts degree degree_word",
    "machines": "reset_word pair_word rank rank_word rank_sets",
    "roads": "coloring shows_coloring weights",
    "rules": "image rule_web composed orphan current still_web",
    "patterns": "pattern_web mirror doubled comes_before has_period kind stefan count_cycles",
    "forcing": "shown forces",
    "circle": "is_rising after_turns upper lower rotation rotations has_turn common_turn",
    "recoding": "blocks straightened window",
    "growing": "grown counts is_mingling pieces",
    "chains": "steady expected_steps chance_first mean_time",
    "lumping": "is_two_way is_even coarsest",
    "coding": "coded_web carries covers first_code first_cover",
    "fitting": "orbits_fit common_part first_orbit",
}


def is_immutable(value):
    """Return whether a value holds no list and no dict."""
    if isinstance(value, tuple):
        return all(is_immutable(entry) for entry in value)
    return not isinstance(value, (list, dict))


def checked(kinds):
    """Return the kinds of the arguments that are checked; those that may be any values stand behind them."""
    return [kind for kind in kinds if kind != "any"]


class Arguments(unittest.TestCase):
    def check_raises(self, function, values, kind, index):
        """Check that a call raises the error of a kind, with its index, and leaves its arguments as they are."""
        before = deepcopy(values)
        with self.assertRaises(errors.ShiftError) as caught:
            function(*values)
        self.assertIs(caught.exception.__class__, wrong.KINDS[kind][0])
        if hasattr(caught.exception, "index"):
            self.assertEqual(caught.exception.index, index)
            self.assertNotIsInstance(caught.exception.index, bool)
        self.assertEqual(repr(values), repr(before))

    def test_wrong_values_in_each_place(self):
        for function, kinds in FUNCTIONS:
            good = [wrong.KINDS[kind][2] for kind in kinds]
            for place, kind in enumerate(checked(kinds)):
                for value, index in wrong.KINDS[kind][1]:
                    with self.subTest(function=function.__name__, place=place, value=value):
                        values = good[:place] + [deepcopy(value)] + good[place + 1:]
                        self.check_raises(function, values, kind, index)

    def test_leftmost_error_first(self):
        for function, kinds in FUNCTIONS:
            for place, kind in enumerate(checked(kinds)[:len(kinds) - 1]):
                good = [wrong.KINDS[before][2] for before in kinds[:place]]
                for value, index in wrong.KINDS[kind][1]:
                    for behind in range(5):
                        rest = [wrong.KINDS[other][1][3 * behind][0] for other in kinds[place + 1:]]
                        with self.subTest(function=function.__name__, place=place, value=value, rest=rest):
                            self.check_raises(function, good + [value] + rest, kind, index)

    def test_any_value_is_answered(self):
        for function, kinds in FUNCTIONS:
            good = [wrong.KINDS[kind][2] for kind in kinds]
            for place in range(len(checked(kinds)), len(kinds)):
                for value, _ in wrong.KINDS["any"][1]:
                    with self.subTest(function=function.__name__, place=place, value=value):
                        values = good[:place] + [deepcopy(value)] + good[place + 1:]
                        self.assertIs(function(*values), False)
                        self.assertEqual(repr(values), repr(good[:place] + [value] + good[place + 1:]))

    def test_good_values_stand_in_all_functions(self):
        for function, kinds in FUNCTIONS:
            with self.subTest(function=function.__name__):
                values = [wrong.KINDS[kind][2] for kind in kinds]
                answer = function(*values)
                self.assertEqual(answer, function(*deepcopy(values)))
                self.assertTrue(is_immutable(answer))
                self.assertEqual(repr(values), repr([wrong.KINDS[kind][2] for kind in kinds]))

    def test_a_failed_call_changes_nothing(self):
        for function, kinds in FUNCTIONS:
            with self.subTest(function=function.__name__):
                values = [wrong.KINDS[kind][2] for kind in kinds]
                last = len(checked(kinds)) - 1
                answer = function(*values)
                for value, _ in wrong.KINDS[kinds[last]][1][:20]:
                    with self.assertRaises(errors.ShiftError):
                        function(*values[:last], value, *values[last + 1:])
                self.assertEqual(answer, function(*values))

    def test_functions_stand_in_the_files_of_the_interface(self):
        found = {}
        for function, _ in FUNCTIONS:
            found.setdefault(function.__module__, set()).add(function.__name__)
        self.assertEqual(found, {f"shiftcore.{name}": set(names.split()) for name, names in INTERFACE.items()})


if __name__ == "__main__":
    unittest.main()
