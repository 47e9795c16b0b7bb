"""What several points say together: what one function makes is good for the others."""

import unittest
from fractions import Fraction
from random import Random

from shiftcore import (bars, chains, circle, codes, coding, counting, fitting, forcing, growing, growth, lumping,
                       machines, matrices, moves, parts, patterns, readers, recoding, roads, rules, shelf, webs,
                       webtext)
from shiftcore.errors import TooMany
from tests import chain_ways, circle_ways, limits, map_ways, matrix_ways, plain
from tests.walk_ways import MORE, TINY

FULL_FOUR = (1, ((0, 0, 0), (0, 0, 1), (0, 0, 2), (0, 0, 3)))


def table_web(rows):
    """Return the web of the steps of a table."""
    return len(rows), tuple((start, end, label) for start, end, label in sorted(
        (start, end, label) for start, row in enumerate(rows) for label, end in enumerate(row) if end is not None))


def matrix_of(web):
    """Return the matrix of the numbers of edges of a web with 1 to 6 states."""
    return matrix_ways.matrix_of(web[0], [(start, end) for start, end, _ in web[1]])


def random_word(rng, letters, most):
    """Return a word of at most so many letters."""
    return tuple(rng.randrange(letters) for _ in range(rng.randint(0, most)))


class MadeWebs(unittest.TestCase):
    """Webs that functions make are good for all functions that take webs."""

    def made_webs(self):
        """Return webs that all kinds of functions make."""
        found = [webs.essential(web) for web in MORE[::6]]
        for one, other in zip(plain.SPECIAL, plain.SPECIAL[3:]):
            for function in (webs.joint, webs.union):
                try:
                    found.append(function(one, other))
                except TooMany:
                    continue
        found += [bars.web_of_bars(letters, barred) for letters, barred in
                  [(2, ((1, 1),)), (3, ()), (3, ((0, 1, 2, 0), (2,))), (1, ((0,),)), (2, ((1, 0, 1), (0, 0, 0, 0)))]]
        found += [webtext.read_web(webtext.write_web(web)) for web in found]
        rule = (2, 3, (0, 1, 1, 0, 1, 0, 0, 1))
        found += [rules.rule_web(rule), rules.still_web(rule, 1), rules.rule_web((3, 4, (0, 1, 2) * 27))]
        found += [patterns.pattern_web(pattern) for pattern in map_ways.SMALL + map_ways.LARGE[:4]]
        for web in (plain.GOLDEN, plain.EVEN, plain.SWAP):
            found += [recoding.blocks(web, length) for length in (2, 3, 4)]
        found += [recoding.straightened(web) for web in (limits.AHEAD_32, limits.ahead(False), plain.GOLDEN)]
        found += [coding.coded_web(plain.GOLDEN, 3, (0, 3, 1, 1, 2)), coding.coded_web(plain.FULL, 2, (0, 1, 1, 0))]
        return found + [table_web(readers.cover(web)) for web in (plain.EVEN, plain.GOLDEN, plain.RING)]

    def test_all_functions_take_them(self):
        for web in self.made_webs():
            self.assertEqual(webtext.read_web(webtext.write_web(web)), web)
            core = webs.essential(web)
            self.assertEqual(webs.essential(core), core)
            self.assertEqual(recoding.blocks(web, 1), core)
            self.assertEqual(webs.words(web, 1), webs.words(core, 1))
            self.assertIs(parts.is_whole(web), parts.is_whole(core))
            self.assertIs(webs.reads(web, ()), core[0] > 0)
            self.assertEqual(growth.walks_floor(web, 3), growth.walks_floor(core, 3))
            box = shelf.Shelf()
            box.put("made", web)
            self.assertEqual(box.get("made"), web)
            self.assertEqual(fitting.common_part(web, web), None if core[0] else 0)
            pair = codes.diamond(web)
            self.assertIs(codes.shows_diamond(web, pair), pair is not None)

    def test_readers_of_them(self):
        for web in self.made_webs():
            try:
                rows = readers.reader(web)
            except TooMany:
                continue
            self.assertIs(readers.same_shift(web, webs.essential(web)), True)
            self.assertEqual(counting.count_words(web, 3), len(webs.words(web, 3)))
            self.assertEqual(rows == (), webs.essential(web) == (0, ()))
            self.assertEqual([readers.stray_word(web, FULL_FOUR) is None, readers.stray_word(FULL_FOUR, web)],
                             [readers.same_shift(web, FULL_FOUR), None])


class Shifts(unittest.TestCase):
    def test_covers_are_resolving_whole_and_of_degree_1(self):
        for web in MORE:
            if parts.is_whole(web):
                made = table_web(readers.cover(web))
                self.assertIs(readers.same_shift(made, web), True)
                self.assertEqual([codes.is_resolving(made), parts.is_whole(made), codes.degree(made)], [True, True, 1])
                self.assertEqual(readers.cover(made), readers.cover(web))
                self.assertIs(readers.is_mixing(web), parts.period(made) == 1)
                self.assertEqual(growth.compare_growth(web, made), 0)
                # There are more walks than words, on the long run, exactly if there is a diamond.
                self.assertEqual(growth.compare_walks(made, web), 0 if codes.diamond(web) is None else -1)

    def test_recoded_webs_keep_the_shift_and_the_walks(self):
        for web in TINY[::2]:
            made = []
            for function in (lambda: recoding.blocks(web, 2), lambda: recoding.blocks(web, 3),
                             lambda: recoding.straightened(web) if codes.delay(web) is not None else web):
                try:
                    made.append(function())
                except TooMany:
                    continue
            for other in made:
                self.assertIs(readers.same_shift(web, other), True)
                self.assertEqual(growth.compare_walks(web, other), 0)
                self.assertIs(codes.is_one_to_one(other), codes.is_one_to_one(web))
                self.assertEqual(codes.diamond(other) is None, codes.diamond(web) is None)
                self.assertEqual(parts.is_whole(other), parts.is_whole(web))
                if parts.is_whole(web):
                    self.assertEqual(parts.period(other), parts.period(web))
                if codes.diamond(web) is None:
                    for word in plain.all_words(2, 3):
                        self.assertEqual(codes.lifts(other, word), codes.lifts(web, word))

    def test_windows_tell_the_walk_as_a_code(self):
        # Where the window is 1, the labels of three edges tell the middle one, and no shorter code does without them.
        for web in TINY:
            if recoding.window(web) in (0, 1) and webs.essential(web)[0]:
                self.assertIs(codes.is_one_to_one(web), True)
                self.assertIsNone(codes.diamond(web))
                self.assertIsNotNone(codes.delay(web))
                if parts.is_whole(web) and codes.is_resolving(web):
                    self.assertEqual(codes.degree(web), 1)

    def test_bars_give_back_the_shift(self):
        for web in TINY + plain.SPECIAL:
            found = bars.least_bars(web)
            if found is not None and () not in found and len(found) <= 8 and max(map(len, found), default=0) <= 4:
                letters = 4 - len([bar for bar in found if len(bar) == 1])
                if all((label,) not in found for label in range(letters)) and letters <= 3:
                    kept = tuple(bar for bar in found if len(bar) > 1)
                    made = bars.web_of_bars(letters, kept)
                    self.assertIs(readers.same_shift(made, web), True)
                    self.assertEqual(bars.step(made), bars.step(web))
                    self.assertIs(bars.is_finite_kind(made), True)

    def test_zeta_counts_and_orbits(self):
        for web in TINY:
            try:
                top, bottom = counting.zeta(web)
            except TooMany:
                continue
            counts = counting.power_sums(top, bottom, 8)
            self.assertEqual(counts, tuple(counting.count_periodic(web, length) for length in range(1, 9)))
            for length in range(1, 9):
                self.assertEqual(fitting.first_orbit(web, length) is None, counting.count_orbits(web, length) == 0)
                word = fitting.first_orbit(web, length)
                if word is not None and codes.diamond(web) is None:
                    self.assertGreater(codes.lifts(web, word), 0)
            self.assertIsNone(fitting.orbits_fit(web, web, 60))

    def test_coded_shifts(self):
        for one in (plain.FULL, plain.GOLDEN, plain.EVEN):
            for other in (plain.GOLDEN, plain.EVEN, plain.POINT, plain.FULL):
                for window in (1, 2):
                    code = coding.first_cover(one, other, window)
                    if code is not None:
                        self.assertIs(coding.covers(one, other, window, code), True)
                        self.assertIs(readers.same_shift(coding.coded_web(one, window, code), other), True)
                        self.assertGreaterEqual(growth.compare_growth(one, other), 0)
                        self.assertLessEqual(coding.first_code(one, other, window), code)

    def test_rules_and_codes_do_the_same(self):
        full = (1, ((0, 0, 0), (0, 0, 1)))
        rng = Random(31)
        for _ in range(30):
            width = rng.randint(1, 3)
            rule = (2, width, tuple(rng.randrange(2) for _ in range(2 ** width)))
            self.assertIs(readers.same_shift(coding.coded_web(full, width, rule[2]), rules.rule_web(rule)), True)
            self.assertIs(coding.covers(full, full, width, rule[2]), rules.orphan(rule) is None)
            still = rules.still_web(rule, 0)
            if still != (0, ()) and width <= 2 and len(webs.words(still, width)) <= 4:
                # What the rule leaves as it is goes to itself.
                code = tuple(rules.image(rule, word)[0] for word in webs.words(still, width))
                self.assertIs(coding.covers(still, still, width, code), True)


class Matrices(unittest.TestCase):
    def test_moves_keep_the_flow(self):
        rng = Random(13)
        kept = 0
        for matrix in matrix_ways.MANY:
            if len(matrix) > 4 or max(map(max, matrix)) > 9:
                continue
            other = matrix_ways.chain(rng, matrix, ["stretch", "split", "names"]) if matrix_ways.edges_of(matrix) \
                and matrix_ways.is_whole(matrix) else matrix
            self.assertEqual(matrices.cycle_group(other), matrices.cycle_group(matrix))
            self.assertEqual(matrices.cycle_sign(other), matrices.cycle_sign(matrix))
            if matrix_ways.is_whole(matrix):
                self.assertIs(matrices.same_flow(matrix, other), True)
                kept += 1
        self.assertGreater(kept, 30)

    def test_polynomials_give_traces(self):
        for matrix in matrix_ways.MANY:
            found = matrices.edge_polynomial(matrix)
            if max(map(abs, found)) <= 1000000:
                self.assertEqual(counting.power_sums((1,), found, 12), matrices.traces(matrix, 12))

    def test_one_way_classes_keep_the_flow_and_the_polynomial(self):
        rng = Random(14)
        for matrix in matrix_ways.MANY:
            if matrix_ways.is_alive(matrix) and len(matrix) <= 4 and max(map(max, matrix)) <= 3:
                other = matrix_ways.chain(rng, matrix, ["split", "names"])
                if matrix_ways.is_alive(other):
                    self.assertIs(moves.same_one_way(matrix, other), True)
                    self.assertEqual(matrices.edge_polynomial(other), matrices.edge_polynomial(matrix))

    def test_growing_words_have_matrices(self):
        rng = Random(15)
        for _ in range(40):
            letters = rng.choice((2, 3))
            table = tuple(tuple(rng.randrange(letters) for _ in range(rng.randint(1, 3))) for _ in range(letters))
            matrix = growing.counts(table)
            self.assertEqual(matrices.traces(matrix, 1)[0], sum(table[at].count(at) for at in range(letters)))
            self.assertEqual(matrices.traces(matrix, 3)[2],
                             sum(growing.grown(table, (at,), 3).count(at) for at in range(letters)))
            if growing.is_mingling(table):
                self.assertTrue(matrix_ways.is_whole(matrix))
                self.assertEqual({letter for word in growing.pieces(table, 1) for letter in word}, set(range(letters)))

    def test_webs_of_labels_of_their_own(self):
        # If each edge has a label of its own, periodic sequences are closed walks.
        for pairs in [((0, 0), (0, 1), (1, 0)), ((0, 1), (1, 2), (2, 0), (2, 2)), ((0, 0), (1, 1)), ((0, 1), (1, 0))]:
            web = (max(max(pair) for pair in pairs) + 1, tuple((*pair, at) for at, pair in enumerate(pairs)))
            traces = matrices.traces(matrix_of(web), 10)
            self.assertEqual(tuple(counting.count_periodic(web, length) for length in range(1, 11)), traces)


class Machines(unittest.TestCase):
    def test_reset_words_and_pairs(self):
        rng = Random(17)
        for _ in range(60):
            many, letters = rng.randint(1, 5), rng.randint(1, 3)
            machine = tuple(tuple(rng.randrange(many) for _ in range(letters)) for _ in range(many))
            pairs = [machines.pair_word(machine, one, other) for one in range(many) for other in range(many)]
            self.assertEqual(machines.reset_word(machine) is None, None in pairs)
            self.assertEqual(machines.rank(machine) == 1, machines.reset_word(machine) is not None)
            self.assertIn(machines.rank(machine), [len(states) for states in machines.rank_sets(machine)])

    def test_colorings_are_machines(self):
        for road in (((0, 1), (0, 0)), ((1, 1), (0, 2), (0, 1)), ((0, 1, 1), (0, 0, 1)), ((1, 2), (0, 2), (0, 1))):
            machine = roads.coloring(road)
            self.assertIs(roads.shows_coloring(road, machine), machine is not None)
            if machine is not None:
                self.assertIsNotNone(machines.reset_word(machine))
                self.assertEqual(machines.rank(machine), 1)

    def test_weights_are_steady(self):
        # One after another the roads of a row are taken with equal chances.
        for road in (((0, 1), (0, 0)), ((1, 1), (0, 2), (0, 1)), ((0, 1, 1), (0, 0, 1)), ((1, 2), (0, 2), (0, 1))):
            chain = tuple(tuple(row.count(at) for at in range(len(road))) for row in road)
            found = roads.weights(road)
            self.assertEqual([Fraction(*part) for part in chains.steady(chain)],
                             [Fraction(weight, sum(found)) for weight in found])


class Maps(unittest.TestCase):
    def test_doubled_patterns_and_mirrors(self):
        for pattern in map_ways.SMALL:
            self.assertEqual(patterns.kind(patterns.mirror(pattern)), patterns.kind(pattern))
            # A double keeps all periods, and has its own one besides.
            many, kind = 2 * len(pattern), patterns.kind(pattern)
            self.assertEqual(patterns.kind(patterns.doubled(pattern)),
                             many if patterns.comes_before(many, kind) else kind)
            self.assertIs(forcing.forces(patterns.doubled(pattern), pattern), True)
            self.assertEqual(patterns.mirror(patterns.mirror(pattern)), pattern)

    def test_stefan_patterns(self):
        for many in (3, 5, 7, 9):
            self.assertEqual(patterns.kind(patterns.stefan(many)), many)
            self.assertEqual(patterns.kind(patterns.mirror(patterns.stefan(many))), many)

    def test_periods_and_shown_patterns(self):
        for pattern in map_ways.SMALL:
            for period in (1, 2, 3, 4):
                found = forcing.shown(pattern, period)
                self.assertEqual(found != (), patterns.has_period(pattern, period))
                for other in found:
                    self.assertIs(forcing.forces(pattern, other), True)
                    self.assertTrue(patterns.kind(other) == patterns.kind(pattern)
                                    or patterns.comes_before(patterns.kind(pattern), patterns.kind(other)))

    def test_pattern_webs_have_matrices(self):
        for pattern in map_ways.FIVE:
            web = patterns.pattern_web(pattern)
            try:
                counts = [patterns.count_cycles(pattern, period) * period for period in (1, 2, 3, 4, 6)]
            except TooMany:
                continue
            traces = matrices.traces(matrix_of(web), 6)
            self.assertEqual([counts[0], sum(counts[:2]), counts[0] + counts[2]], [traces[0], traces[1], traces[2]])
            self.assertEqual([sum(counts[:2]) + counts[3], sum(counts[:3]) + counts[4]], [traces[3], traces[5]])

    def test_turn_maps_in_a_row(self):
        for turns in circle_ways.RISING:
            top, bottom = circle.rotation(turns)
            twice = circle_ways.value(turns, circle_ways.value(turns, Fraction(0)))
            try:
                made = circle.after_turns(turns, turns)
            except ValueError:
                continue
            self.assertEqual(Fraction(*circle.rotation(made)), 2 * Fraction(top, bottom))
            self.assertEqual(Fraction(made[0], len(made)), twice)
            self.assertIs(circle.is_rising(made), True)

    def test_common_turns_are_turned(self):
        for turns in circle_ways.MANY[::5]:
            top, bottom = circle.common_turn(turns)
            if abs(top) <= 100:
                self.assertIs(circle.has_turn(turns, top, bottom), True)


class Chains(unittest.TestCase):
    def test_returns_and_mean_times(self):
        for chain in chain_ways.WHOLE:
            for state, (top, bottom) in enumerate(chains.steady(chain)):
                self.assertEqual(chains.expected_steps(chain, state, state), (bottom, top))

    def test_even_parts_make_a_chain_with_the_same_probabilities(self):
        joined = 0
        for chain in chain_ways.WHOLE:
            for parts_given in chain_ways.all_parts(len(chain)):
                found = lumping.coarsest(chain, parts_given)
                self.assertIs(lumping.is_even(chain, found), True)
                whole = [sum(chain[part[0]]) for part in found]
                small = tuple(tuple(sum(chain[part[0]][by] for by in into) for into in found) for part in found)
                if max(map(max, small)) <= 20 and len(found) < len(chain):
                    self.assertEqual([sum(row) for row in small], whole)
                    self.assertEqual([Fraction(*pair) for pair in chains.steady(small)],
                                     [sum(Fraction(*chains.steady(chain)[state]) for state in part) for part in found])
                    joined += 1
        self.assertGreater(joined, 50)


class Shelves(unittest.TestCase):
    def test_classes_are_those_of_same_shift(self):
        box = shelf.Shelf()
        kept = {}
        for at, web in enumerate(TINY[:26]):
            kept["abcdefghijklmnopqrstuvwxyz"[at]] = web
            box.put("abcdefghijklmnopqrstuvwxyz"[at], web)
        for group in box.classes():
            for name in kept:
                self.assertEqual(readers.same_shift(kept[name], kept[group[0]]), name in group)
        self.assertEqual(box.least_for(kept), ())
        self.assertEqual(shelf.Shelf().least_for(kept), tuple(group[0] for group in box.classes()))


if __name__ == "__main__":
    unittest.main()
