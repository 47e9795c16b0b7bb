"""Point 28: a shelf of webs."""

import unittest
from copy import deepcopy
from itertools import permutations
from random import Random

from shiftcore.errors import BadName, BadWanted, BadWeb, NoName, NothingToUndo, ShiftError
from shiftcore.readers import reader
from shiftcore.shelf import Shelf
from tests import limits, plain, wrong
from tests.cases import WithLimits

METHODS = ["put", "drop", "get", "names", "undo", "classes", "least_for"]
NAMES = ["a", "b", "z", "aa", "ab", "golden", "zzzzzzzz", "abcdefgh"]
WRONG_NAMES = ["", "A", "aB", "a1", "a b", " a", "a ", "a\n", "_", "-", "aaaaaaaaa", "\u00e4", "\u0430", "\u00df",
               "a\u0301", "a.b", "`", "{", 0, 1, -1, True, False, None, (), ("a",), 10 ** 30]
# These cannot be keys of a dict.
ODD_NAMES = WRONG_NAMES + [[], ["a"], {}, {"a": 1}]
WEBS = [web for web in plain.SPECIAL if web[0] <= 4] + plain.random_webs(1, 12, 3, 2, 2)
WEBS += [other for web in (plain.GOLDEN, plain.EVEN, plain.SWAP, plain.EMPTY, plain.POINT)
         for other in plain.same_shift_webs(web)]


def words_of(web):
    """Return the words of up to 6 labels that a web reads, which tell the webs above apart."""
    return frozenset().union(*[plain.core_words(web, length) for length in range(7)])


WORDS = {web: words_of(web) for web in WEBS}


class Record:
    """What a shelf holds, by all shelves that there were before each change."""

    def __init__(self):
        self.before = []
        self.webs = {}

    def change(self, webs):
        """Keep what was there, and hold other webs now."""
        self.before.append(self.webs)
        self.webs = webs

    def put(self, name, web):
        """Store a web."""
        self.change({**self.webs, name: web})

    def drop(self, name):
        """Take a web away."""
        self.change({other: web for other, web in self.webs.items() if other != name})

    def undo(self):
        """Go back."""
        self.webs = self.before.pop()

    def classes(self):
        """Return the names of webs with the same words, in order."""
        found = []
        for name in sorted(self.webs):
            group = tuple(sorted(other for other in self.webs if WORDS[self.webs[other]] == WORDS[self.webs[name]]))
            if group not in found:
                found.append(group)
        return tuple(found)

    def least_for(self, wanted):
        """Return the names of webs with words that no web on the shelf and no web of a smaller name has."""
        taken = [WORDS[web] for web in self.webs.values()]
        return tuple(name for name in sorted(wanted)
                     if WORDS[wanted[name]] not in taken + [WORDS[wanted[other]] for other in wanted if other < name])


def filled(webs):
    """Return a shelf with webs of a dict."""
    shelf = Shelf()
    for name, web in webs.items():
        shelf.put(name, web)
    return shelf


class Shelves(WithLimits):
    def check_same(self, shelf, record):
        """Check that a shelf holds what a record says."""
        self.assertEqual(shelf.names(), tuple(sorted(record.webs)))
        for name in NAMES:
            if name in record.webs:
                self.assertEqual(shelf.get(name), record.webs[name])
            else:
                self.assertRaises(NoName, shelf.get, name)

    def test_words_tell_the_webs_apart(self):
        for one in WEBS:
            for other in WEBS:
                self.assertEqual(WORDS[one] == WORDS[other], reader(one) == reader(other))

    def test_many_calls_against_a_record(self):
        seen = set()
        for seed in range(30):
            rng = Random(seed)
            shelf, record = Shelf(), Record()
            for _ in range(60):
                name, web = rng.choice(NAMES), rng.choice(WEBS)
                kind = rng.choice(["put", "put", "drop", "undo", "wrong"])
                seen.add((kind, name in record.webs, bool(record.before)))
                if kind == "put":
                    self.assertIsNone(shelf.put(name, web))
                    record.put(name, web)
                elif kind == "drop" and name in record.webs:
                    self.assertEqual(shelf.drop(name), record.webs[name])
                    record.drop(name)
                elif kind == "drop":
                    self.assertRaises(NoName, shelf.drop, name)
                elif kind == "undo" and record.before:
                    self.assertIsNone(shelf.undo())
                    record.undo()
                elif kind == "undo":
                    self.assertRaises(NothingToUndo, shelf.undo)
                else:
                    self.assertRaises(BadWeb, shelf.put, name, (1, ((0, 0, 4),)))
                    self.assertRaises(BadName, shelf.put, name + "A", web)
                self.check_same(shelf, record)
            self.assertEqual(shelf.classes(), record.classes())
            while record.before:
                shelf.undo()
                record.undo()
                self.check_same(shelf, record)
            self.assertRaises(NothingToUndo, shelf.undo)
        # Each kind of call, with the name there or not, and with something to take back or not, and then no name.
        self.assertEqual(len(seen), 12)

    def test_classes_and_least_against_a_record(self):
        sizes = set()
        for seed in range(60):
            rng = Random(seed)
            shelf, record = Shelf(), Record()
            for name in rng.sample(NAMES, rng.randint(0, 6)):
                web = rng.choice(WEBS)
                shelf.put(name, web)
                record.put(name, web)
            self.assertEqual(shelf.classes(), record.classes())
            for _ in range(5):
                wanted = {name: rng.choice(WEBS) for name in rng.sample(NAMES, rng.randint(0, 7))}
                kept = deepcopy(wanted)
                found = shelf.least_for(wanted)
                self.assertEqual(found, record.least_for(wanted))
                self.assertEqual(list(wanted.items()), list(kept.items()))
                sizes.add((len(record.classes()) < len(record.webs), len(found) < len(wanted)))
            self.check_same(shelf, record)
        self.assertEqual(len(sizes), 4)

    def test_methods_are_those_of_the_class_itself(self):
        self.assertLessEqual(set(METHODS), set(vars(Shelf)))
        self.assertEqual([Shelf.__bases__, Shelf.__module__], [(object,), "shiftcore.shelf"])

    def test_shelves_have_nothing_in_common(self):
        one, other = Shelf(), Shelf()
        one.put("a", plain.GOLDEN)
        self.assertEqual([one.names(), other.names()], [("a",), ()])
        self.assertRaises(NothingToUndo, other.undo)

    def test_empty_shelf(self):
        shelf = Shelf()
        self.assertEqual([shelf.names(), shelf.classes(), shelf.least_for({})], [(), (), ()])
        self.assertRaises(NothingToUndo, shelf.undo)
        for name in NAMES:
            self.assertRaises(NoName, shelf.get, name)
            self.assertRaises(NoName, shelf.drop, name)
        self.assertEqual(shelf.least_for({"b": plain.EMPTY, "a": (3, ())}), ("a",))

    def test_undo_behind_each_kind_of_call(self):
        shelf = filled({"a": plain.GOLDEN})
        shelf.put("a", plain.EVEN)
        self.assertIsNone(shelf.undo())
        self.assertEqual(shelf.get("a"), plain.GOLDEN)
        self.assertEqual(shelf.drop("a"), plain.GOLDEN)
        self.assertIsNone(shelf.undo())
        self.assertEqual(shelf.get("a"), plain.GOLDEN)
        # Calls that only ask are not taken back, nor are those that raise an error, nor undo itself.
        shelf.put("b", plain.EMPTY)
        self.assertEqual([shelf.get("b"), shelf.names(), shelf.classes(), shelf.least_for({"c": plain.EMPTY})],
                         [plain.EMPTY, ("a", "b"), (("a",), ("b",)), ()])
        self.assertRaises(NoName, shelf.drop, "c")
        self.assertRaises(BadWeb, shelf.put, "a", None)
        self.assertRaises(BadName, shelf.put, "A", plain.EVEN)
        self.assertRaises(BadWanted, shelf.least_for, None)
        shelf.undo()
        self.assertEqual(shelf.names(), ("a",))
        shelf.undo()
        self.assertEqual(shelf.names(), ())
        self.assertRaises(NothingToUndo, shelf.undo)
        self.assertRaises(NothingToUndo, shelf.undo)
        self.assertEqual(shelf.names(), ())

    def test_the_same_web_put_again_is_a_change(self):
        shelf = filled({"a": plain.GOLDEN})
        shelf.put("a", plain.GOLDEN)
        shelf.undo()
        self.assertEqual(shelf.get("a"), plain.GOLDEN)
        shelf.undo()
        self.assertRaises(NoName, shelf.get, "a")

    def test_webs_are_kept_as_they_are(self):
        # Dead ends stay, since only the shift is asked about by classes and least_for.
        shelf = filled({"dead": plain.DEAD, "tails": plain.TAILS, "none": (0, ())})
        self.assertEqual([shelf.get("dead"), shelf.drop("tails")], [plain.DEAD, plain.TAILS])
        self.assertEqual(shelf.classes(), (("dead", "none"),))

    def test_order_of_classes(self):
        webs = {"d": plain.GOLDEN, "a": plain.EVEN, "c": plain.GOLDEN, "b": plain.POINT, "e": plain.EVEN}
        for order in permutations(webs):
            shelf = filled({name: webs[name] for name in order})
            self.assertEqual(shelf.classes(), (("a", "e"), ("b",), ("c", "d")))

    def test_order_of_wanted(self):
        webs = {"b": plain.GOLDEN, "a": plain.EVEN, "d": plain.GOLDEN, "aa": plain.POINT, "c": plain.EVEN}
        shelf = filled({"z": plain.POINT})
        for order in permutations(webs):
            self.assertEqual(shelf.least_for({name: webs[name] for name in order}), ("a", "b"))
        # A name on the shelf may be wanted, too; only shifts are compared.
        self.assertEqual(shelf.least_for({"z": plain.EVEN, "y": plain.POINT}), ("z",))
        self.assertEqual(shelf.names(), ("z",))


class Errors(WithLimits):
    def test_wrong_names(self):
        shelf = filled({"a": plain.GOLDEN})
        for name in ODD_NAMES:
            self.assertRaises(BadName, shelf.put, name, plain.EVEN)
            self.assertRaises(BadName, shelf.put, name, None)
            self.assertRaises(BadName, shelf.get, name)
            self.assertRaises(BadName, shelf.drop, name)
        self.assertEqual([shelf.names(), shelf.get("a")], [("a",), plain.GOLDEN])
        for name in NAMES + ["y", "abcdxyz"]:
            self.assertIsNone(shelf.put(name, plain.EVEN))

    def test_wrong_webs(self):
        shelf = filled({"a": plain.GOLDEN})
        for value, index in wrong.WEBS:
            for call in (lambda: shelf.put("a", value), lambda: shelf.put("b", value),
                         lambda: shelf.least_for({"b": value}), lambda: shelf.least_for({"b": value, "a": plain.EVEN})):
                with self.assertRaises(BadWeb) as caught:
                    call()
                self.assertEqual(caught.exception.index, index)
        self.assertEqual([shelf.names(), shelf.get("a")], [("a",), plain.GOLDEN])

    def test_wrong_wanted(self):
        shelf = filled({"a": plain.GOLDEN})
        for value in [0, 1, -1, "", "a", True, False, None, (), (("b", plain.EVEN),), [], [("b", plain.EVEN)], ("b",)]:
            self.assertRaises(BadWanted, shelf.least_for, value)
        for name in WRONG_NAMES:
            for wanted in ({name: plain.EVEN}, {name: None}, {"a": None, name: None}, {name: None, "a": None}):
                self.assertRaises(BadName, shelf.least_for, wanted)

    def test_first_wrong_web_by_name(self):
        shelf = Shelf()
        bad = [(1, ((0, 0, 4),)), (1, ((0, 0, 0), None)), (1, ((0, 0, 0), (0, 0, 1), 7)), None]
        for order in permutations(range(4)):
            wanted = {"abcd"[at]: bad[at] for at in order}
            with self.assertRaises(BadWeb) as caught:
                shelf.least_for(wanted)
            self.assertEqual(caught.exception.index, 0)
            wanted = {"dcba"[at]: bad[at] for at in order if at < 3}
            with self.assertRaises(BadWeb) as caught:
                shelf.least_for(wanted)
            self.assertEqual(caught.exception.index, 2)

    def test_too_many(self):
        shelf = filled({"big": limits.SETS_201, "even": plain.EVEN})
        self.check_too_many(200, shelf.classes)
        for wanted in ({"a": plain.EVEN}, {"a": plain.GOLDEN, "b": limits.SETS_200}, {}):
            self.check_too_many(200, shelf.least_for, wanted)
        self.assertRaises(BadWanted, shelf.least_for, None)
        self.assertRaises(BadName, shelf.least_for, {"A": plain.EVEN})
        self.assertRaises(BadWeb, shelf.least_for, {"a": limits.SETS_201, "b": None})
        self.assertEqual(shelf.drop("big"), limits.SETS_201)
        self.assertEqual(shelf.classes(), (("even",),))
        self.check_too_many(200, shelf.least_for, {"a": plain.EVEN, "b": limits.SETS_201})
        self.check_too_many(200, shelf.least_for, {"b": limits.SETS_201, "c": limits.SETS_201})
        self.assertEqual(shelf.names(), ("even",))
        shelf.put("large", limits.SETS_200)
        self.assertEqual(shelf.classes(), (("even",), ("large",)))
        self.assertEqual(shelf.least_for({"a": limits.SETS_200, "b": plain.GOLDEN}), ("b",))

    def test_errors_change_nothing(self):
        shelf = filled({"a": plain.GOLDEN, "b": limits.SETS_201})
        calls = [lambda: shelf.put("c", None), lambda: shelf.put("C", plain.EVEN), lambda: shelf.put("a", (0,)),
                 lambda: shelf.drop("c"), lambda: shelf.drop(0), lambda: shelf.get("c"), lambda: shelf.get(None),
                 shelf.classes, lambda: shelf.least_for({}), lambda: shelf.least_for(0),
                 lambda: shelf.least_for({0: 0})]
        for call in calls:
            self.assertRaises(ShiftError, call)
            self.assertEqual([shelf.names(), shelf.get("a"), shelf.get("b")],
                             [("a", "b"), plain.GOLDEN, limits.SETS_201])
        shelf.undo()
        shelf.undo()
        self.assertEqual(shelf.names(), ())
        self.assertRaises(NothingToUndo, shelf.undo)


if __name__ == "__main__":
    unittest.main()
