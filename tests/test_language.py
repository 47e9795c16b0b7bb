"""The rules of the language subset that can be seen from the code, a rule with its number (L1 ..)."""

import ast
import builtins
import re
import unittest
from pathlib import Path

PACKAGE = Path(__file__).resolve().parent.parent / "shiftcore"
BUILTINS = """len range enumerate zip min max sum abs sorted reversed int str bool bytes list tuple dict set
    frozenset isinstance ord repr any all divmod map iter next super Exception ValueError TypeError KeyError
    IndexError LookupError ZeroDivisionError ArithmeticError OverflowError RuntimeError NotImplementedError
    AttributeError StopIteration NotImplemented""".split()
METHODS = """append clear copy count endswith extend find get index insert isalnum isalpha isdigit islower
    isspace isupper items join keys ljust lower lstrip partition pop remove replace reverse rfind rjust
    rpartition rsplit rstrip setdefault split splitlines startswith strip update upper values zfill bit_length
    add discard __init__""".split()
LIBRARY = {"heapq": "heappush heappop heapify heapreplace heappushpop", "math": "gcd lcm isqrt comb perm factorial",
           "itertools": "product combinations permutations"}
BARRED_NAMES = """register mro elements open input law version_info with_traceback add_note attrgetter
    breakpoint builtins compile copyright credits delattr dir eval exec exit gc getattr globals hasattr help id
    importlib license locals methodcaller os quit setattr type vars sys""".split()
BARRED_WORDS = """typing typing_extensions enum Enum IntEnum StrEnum Flag IntFlag Generic Protocol ABC ABCMeta
    namedtuple NamedTuple TypedDict TYPE_CHECKING abstractmethod dataclass overload contextmanager type""".split()
# L12: the names that are barred, also with digits or underscores behind them, and the beginnings that are.
BARRED_WHOLE = re.compile(r"(?<!\w)_(?:cold|tuplegetter|outside|record|written_out|member_names)[0-9_]*(?!\w)")
BARRED_FIRST = re.compile(r"(?<!\w)_(?:wall|pe_|dcw_|enum_|cm_|twin_re_|lay_|law_|stub_|sre|WallAttr)\w*")
AT_ONCE = """list tuple dict sorted sum any all enumerate zip min max len reversed product combinations
    permutations""".split()
STATEMENTS = (ast.Assign, ast.AugAssign, ast.If, ast.While, ast.For, ast.Return, ast.Break, ast.Continue, ast.Pass,
              ast.Raise, ast.Assert, ast.Delete, ast.Expr, ast.Try, ast.FunctionDef, ast.ClassDef, ast.ImportFrom)


def sources():
    """Return the names of the files of the package with their texts."""
    return {path.name: path.read_text("utf-8") for path in sorted(PACKAGE.iterdir()) if path.suffix == ".py"}


TREES = {name: ast.parse(text) for name, text in sources().items()}


def bound_names(tree):
    """Return the names that a file binds at module level, imports left out."""
    found = [node.name for node in tree.body if isinstance(node, (ast.FunctionDef, ast.ClassDef))]
    for node in tree.body:
        if isinstance(node, ast.Assign):
            found.extend(target.id for target in node.targets)
    return found


def imported_names(tree):
    """Return the names that a file imports."""
    return [alias.name for node in tree.body if isinstance(node, ast.ImportFrom) for alias in node.names]


def is_plain(node):
    """Return whether an expression at module level is a plain value."""
    if isinstance(node, ast.Tuple):
        return all(is_plain(entry) for entry in node.elts)
    if isinstance(node, ast.UnaryOp):
        return isinstance(node.op, ast.USub) and is_plain(node.operand)
    return isinstance(node, ast.Constant)


def nodes():
    """Return all nodes of all files, each with the name of its file and the node above it."""
    found = []
    for name, tree in TREES.items():
        for above in ast.walk(tree):
            found.extend((name, node, above) for node in ast.iter_child_nodes(above))
    return found


class Language(unittest.TestCase):
    def test_files(self):
        for path in PACKAGE.iterdir():
            if path.name != "__pycache__":
                self.assertRegex(path.name, r"\A([a-z][a-z0-9_]*|__init__)\.py\Z")
                self.assertNotIn(path.stem, dir(builtins))
        for name, text in sources().items():
            self.assertEqual(set(re.findall(r"[^\n -~]", text)), set(), f"{name} L14")
            self.assertLessEqual(text.count("\n"), 399, f"{name} L10")
            self.assertLessEqual(max(map(len, text.split("\n"))), 120, f"{name} L10")
            code = "\n".join(ast.unparse(node) for node in without_docstrings(ast.parse(text)).body)
            self.assertEqual([word for word in BARRED_WORDS if re.search(rf"\b{word}\b", code)], [], f"{name} L17")

    def test_imports(self):
        seen = {}
        for name, tree in TREES.items():
            seen[name] = []
            for node in ast.walk(tree):
                self.assertNotIsInstance(node, ast.Import, f"{name} L2")
                if not isinstance(node, ast.ImportFrom):
                    continue
                names = [alias.name for alias in node.names]
                self.assertEqual([node.level, [alias.asname for alias in node.names if alias.asname]], [0, []], name)
                if node.module in LIBRARY:
                    self.assertLessEqual(set(names), set(LIBRARY[node.module].split()), f"{name} L2")
                    continue
                base, _, file = node.module.partition(".")
                self.assertEqual(base, "shiftcore", f"{name} L2")
                self.assertLessEqual(set(names), set(bound_names(TREES[file + ".py"])), f"{name} L16")
                seen[name].append(file + ".py")
            self.assertEqual(len(set(bound_names(tree) + imported_names(tree))),
                             len(bound_names(tree) + imported_names(tree)), f"{name} L15")
        for _ in TREES:
            seen = {name: files for name, files in seen.items() if any(file in seen for file in files)}
        self.assertEqual(seen, {}, "L16: files that import from each other")

    def test_module_level(self):
        for name, tree in TREES.items():
            self.assertIsNotNone(ast.get_docstring(tree), name)
            for node in tree.body[1:]:
                self.assertIsInstance(node, (ast.ImportFrom, ast.FunctionDef, ast.ClassDef, ast.Assign), f"{name} L3")
                if isinstance(node, ast.Assign):
                    self.assertTrue(len(node.targets) == 1 and is_plain(node.value), f"{name} L3 line {node.lineno}")

    def test_functions(self):
        for name, node, _ in nodes():
            if isinstance(node, ast.FunctionDef):
                where = f"{name} {node.name}"
                self.assertLessEqual(node.end_lineno - node.lineno + 1, 40, f"{where} L10")
                self.assertEqual(node.decorator_list, [], f"{where} L4")
                if node.name != "__init__":
                    self.assertIsNotNone(ast.get_docstring(node), where)

    def test_statements_and_values(self):
        for name, node, above in nodes():
            where = f"{name} line {getattr(node, 'lineno', 0)}"
            if isinstance(node, ast.stmt):
                self.assertIsInstance(node, STATEMENTS, f"{where} L6")
            self.assertNotIsInstance(node, (ast.Div, ast.MatMult, ast.Lambda, ast.Yield, ast.NamedExpr), f"{where} L7")
            if isinstance(node, ast.Constant):
                self.assertNotIsInstance(node.value, (float, complex, bytes), f"{where} L7")
                self.assertFalse(isinstance(node.value, str) and "%" in node.value, f"{where} L27")
            if isinstance(node, ast.BinOp) and isinstance(node.op, ast.Pow):
                self.assertIsInstance(node.right, ast.Constant, f"{where} L27")
            if isinstance(node, ast.Compare) and any(isinstance(op, (ast.Is, ast.IsNot)) for op in node.ops):
                self.assertIsInstance(node.comparators[0], ast.Constant, f"{where} L20")
            if isinstance(node, (ast.Set, ast.SetComp)):
                is_in_call = isinstance(above, ast.Call) and above.func.id in ("sorted", "len")
                self.assertTrue(is_in_call or isinstance(above, (ast.Compare, ast.Assign)), f"{where} L24")
            if isinstance(node, ast.GeneratorExp):
                self.assertTrue(isinstance(above, ast.Call), f"{where} L7")

    def test_names(self):
        for name, tree in TREES.items():
            own = set(bound_names(tree))
            outer = set(imported_names(tree)) | {node.name for node in tree.body if isinstance(node, ast.ClassDef)}
            for node in ast.walk(tree):
                if isinstance(node, ast.Name) and isinstance(node.ctx, ast.Load):
                    if node.id not in own and node.id in dir(builtins):
                        self.assertIn(node.id, BUILTINS, f"{name} line {node.lineno} L8")
                words = []
                if isinstance(node, ast.Name) and isinstance(node.ctx, ast.Store):
                    words = [node.id]
                if isinstance(node, ast.arg):
                    words = [node.arg]
                    self.assertIsNone(node.annotation, f"{name} L21")
                for word in words:
                    self.assertNotIn(word, outer, f"{name} line {node.lineno} L15")
                if isinstance(node, (ast.FunctionDef, ast.ClassDef)):
                    words = [node.name]
                for word in words:
                    self.assertRegex(word, r"\A(__init__|_|_?[A-Za-z][A-Za-z0-9_]*)\Z", f"{name} L12")
                    self.assertNotIn(word, dir(builtins), f"{name} line {node.lineno} L15")
                    self.assertNotIn(word, BARRED_NAMES, f"{name} line {node.lineno} L17")

    def test_names_that_l12_bars(self):
        for name, text in sources().items():
            self.assertEqual(barred_by_l12(text), [], f"{name} L12")

    def test_l12_sees_each_barred_name(self):
        for name in ("_cold", "_tuplegetter", "_outside", "_record", "_written_out", "_member_names"):
            for behind in ("", "1", "_", "__", "_2", "30_", "_4_5"):
                for row in ("def {}(edges, walk):", "    return {}(1) == 2", "self.{} = 3", "from shiftcore.a import {}",
                            "class {}:", "{} = 4", "def told({}):", "for at, {} in rows:"):
                    self.assertNotEqual(barred_by_l12(row.format(name + behind)), [], name + behind)
            for free in (f"{name}s", f"{name}_x", f"x{name}", f"_{name}", f"{name}1a", name[1:], name.upper()):
                self.assertEqual(barred_by_l12(f"{free} = 4"), [], free)
        for name in ("_wall", "_walls", "_WallAttr", "_pe_x", "_dcw_", "_enum_a", "_cm_1", "_twin_re_", "_lay_out",
                     "_law_", "_stub_", "_sre"):
            self.assertNotEqual(barred_by_l12(f"x = {name}(1)"), [], name)

    def test_calls(self):
        for name, node, above in nodes():
            where = f"{name} line {getattr(node, 'lineno', 0)}"
            if isinstance(node, ast.Attribute):
                self.assertNotIn(node.attr, BARRED_NAMES, f"{where} L17")
                if isinstance(above, ast.Call) and above.func is node:
                    self.assertIn(node.attr, METHODS + own_methods(), f"{where} L25")
            if not isinstance(node, ast.Call) or not isinstance(node.func, ast.Name):
                continue
            if node.func.id in BUILTINS:
                keywords = {keyword.arg for keyword in node.keywords}
                self.assertLessEqual(keywords, {"key", "reverse", "default", "start", "strict"}, f"{where} L22")
            is_view = node.func.id in ("range", "zip", "enumerate", "reversed", *LIBRARY["itertools"].split())
            if is_view and not isinstance(above, (ast.For, ast.comprehension)):
                self.assertIsInstance(above, ast.Call, f"{where} L23")
                self.assertIn(above.func.id, AT_ONCE, f"{where} L23")


def barred_by_l12(text):
    """Return the names in a text, comments and strings included, that L12 bars."""
    return BARRED_WHOLE.findall(text) + BARRED_FIRST.findall(text)


def own_methods():
    """Return the names of the methods of the classes of the package."""
    classes = [node for tree in TREES.values() for node in tree.body if isinstance(node, ast.ClassDef)]
    return [node.name for found in classes for node in found.body if isinstance(node, ast.FunctionDef)]


def without_docstrings(tree):
    """Return a tree with its docstrings emptied."""
    for node in ast.walk(tree):
        if isinstance(node, (ast.Module, ast.FunctionDef, ast.ClassDef)) and ast.get_docstring(node) is not None:
            node.body[0].value.value = ""
    return tree


if __name__ == "__main__":
    unittest.main()
