"""Some rules of ../shared/LANGUAGE.md, held against the package's files.

Looked at, in whole or in part: L1 to L8, L10, L12 to L28. The others, L9 and L11, are left to the reader.
"""

import ast
import builtins
import pathlib
import re
import unittest

PACKAGE = pathlib.Path(__file__).resolve().parent.parent / "dykemoot"
FILES = sorted(PACKAGE.rglob("*.py"))

PYTHONS_OWN = set("""
    len range enumerate zip min max sum abs sorted reversed int str bool list tuple dict set frozenset isinstance ord
    repr any all divmod Exception ValueError TypeError KeyError IndexError LookupError ZeroDivisionError
    ArithmeticError OverflowError RuntimeError NotImplementedError AttributeError StopIteration""".split())
METHODS = set("""
    append clear copy count endswith extend find get index insert isalnum isalpha isdigit islower isspace isupper items
    join keys ljust lower lstrip partition pop remove replace reverse rfind rjust rpartition rsplit rstrip setdefault
    split splitlines startswith strip update upper values zfill bit_length""".split())
NO_NAMES = set("""
    register mro elements open input version_info with_traceback add_note attrgetter breakpoint builtins compile
    copyright credits delattr dir eval exec exit gc getattr globals hasattr help id importlib license locals
    methodcaller os quit setattr super type vars sys format format_map chr""".split())
NO_WORDS = re.compile(
    r"\b(type|typing|typing_extensions|enum|Enum|IntEnum|StrEnum|Flag|IntFlag|Generic|Protocol|ABC|ABCMeta|namedtuple"
    r"|NamedTuple|TypedDict|TYPE_CHECKING|abstractmethod)\b|dataclass|overload|contextmanager")
KEYWORDS = {"sorted": ("key", "reverse"), "min": ("key", "default"), "max": ("key", "default"), "sum": ("start",),
            "enumerate": ("start",), "zip": ("strict",)}
WALKED = ("zip", "enumerate", "reversed", "range", "items", "keys", "values")
WALKERS = ("list", "tuple", "dict", "sorted", "sum", "any", "all", "enumerate", "zip")
# Names that methods, and that values of objects, have in common with Python's own values.
SHARED_BY_METHODS = METHODS | {"add", "discard"}
SHARED_BY_VALUES = set("count index title find get join lower upper split strip copy add".split())
OWN_VALUES = (str, int, list, tuple, dict, set, frozenset, bytes, Exception)
UNDERSCORED = ("__init__", "__eq__", "__repr__", "__str__", "__len__")
NODES = tuple(getattr(ast, name) for name in """
    Module FunctionDef Lambda ClassDef arguments arg Return Assign AugAssign For While If Raise Try ExceptHandler
    ImportFrom alias Expr Pass Break Continue BoolOp And Or BinOp Add Sub Mult FloorDiv Mod Pow LShift RShift BitOr
    BitXor BitAnd UnaryOp Invert Not USub UAdd IfExp Dict List Tuple Set ListComp comprehension Compare Eq NotEq Lt
    LtE Gt GtE Is IsNot In NotIn Call keyword JoinedStr FormattedValue Constant Attribute Subscript Slice Name Load
    Store""".split())


def tree_of(path):
    return ast.parse(path.read_text(encoding="utf-8"))


def walk():
    for path in FILES:
        for node in ast.walk(tree_of(path)):
            yield f"{path.name}:{getattr(node, 'lineno', 0)}", node


def bound_names(node):
    if isinstance(node, (ast.FunctionDef, ast.ClassDef)):
        return [node.name]
    if isinstance(node, ast.arg):
        return [node.arg]
    if isinstance(node, ast.Name) and isinstance(node.ctx, ast.Store):
        return [node.id]
    return [node.name] if isinstance(node, ast.ExceptHandler) and node.name else []


def called(node):
    """The name of the function or method that a node calls, or None."""
    if not isinstance(node, ast.Call):
        return None
    return node.func.id if isinstance(node.func, ast.Name) else getattr(node.func, "attr", None)


def walked_in(node):
    """The parts of a node that are walked on the spot."""
    if isinstance(node, (ast.For, ast.comprehension)):
        return [node.iter]
    if called(node) in WALKERS:
        return node.args[:1]
    if called(node) in ("min", "max") and len(node.args) == 1:
        return node.args
    return node.args if called(node) == "join" and isinstance(node.func.value, ast.Constant) else []


def is_plain(node, functions, deep=False):
    """Whether a value may stand at a file's top, behind these functions."""
    if isinstance(node, ast.Constant):
        return True
    if isinstance(node, ast.UnaryOp):
        return isinstance(node.op, ast.USub) and isinstance(node.operand, ast.Constant)
    if isinstance(node, ast.Name):
        return node.id in functions
    parts = node.keys + node.values if isinstance(node, ast.Dict) else getattr(node, "elts", None)
    if not isinstance(node, (ast.Tuple, ast.List, ast.Dict)) or deep and not isinstance(node, ast.Tuple):
        return False
    return all(is_plain(part, functions, True) for part in parts)


def sets_in(node):
    """The parts of a node where a set may stand."""
    if isinstance(node, ast.Compare):
        return [node.left] + node.comparators
    if isinstance(node, ast.BinOp) and isinstance(node.op, (ast.Sub, ast.BitAnd, ast.BitOr, ast.BitXor)):
        return [node.left, node.right]
    return node.args if called(node) in ("len", "sorted") and not node.keywords else []


class TestLanguage(unittest.TestCase):
    def test_files(self):
        for path in PACKAGE.rglob("*"):
            if "__pycache__" not in path.parts:
                self.assertRegex(path.name, r"^(__init__|__main__|[a-z][a-z0-9_]*)\.py$")
        self.assertIn(PACKAGE / "__init__.py", FILES)

    def test_signs_and_sizes(self):
        for path in FILES:
            lines = path.read_text(encoding="utf-8").split("\n")
            self.assertLessEqual(len(lines), 400, path.name)
            for place, line in enumerate(lines, start=1):
                self.assertRegex(line, r"\A[ -~]{0,120}\Z", f"{path.name}:{place}")
                self.assertIsNone(NO_WORDS.search(line), f"{path.name}:{place}")
        for place, node in walk():
            if isinstance(node, ast.FunctionDef):
                self.assertLessEqual(node.end_lineno - node.lineno + 1, 40, place)

    def test_forms(self):
        for place, node in walk():
            self.assertIsInstance(node, NODES, place)
            if isinstance(node, ast.Assign):
                self.assertEqual(len(node.targets), 1, place)
            if isinstance(node, (ast.For, ast.While)):
                self.assertEqual(node.orelse, [], place)
            if isinstance(node, ast.Try):
                self.assertEqual(node.finalbody, [], place)
            if isinstance(node, ast.ListComp):
                self.assertEqual(len(node.generators), 1, place)
                self.assertLessEqual(len(node.generators[0].ifs), 1, place)
            if isinstance(node, ast.Constant):
                self.assertIn(type(node.value), (int, str, bool, type(None)), place)
            if isinstance(node, ast.Constant) and isinstance(node.value, str):
                self.assertNotIn("%", node.value, place)
            if isinstance(node, ast.Compare) and isinstance(node.ops[0], (ast.Is, ast.IsNot)):
                self.assertIsInstance(node.comparators[0], ast.Constant, place)
            if isinstance(node, ast.FormattedValue):
                self.assertIsInstance(node.value, ast.Name, place)
                self.assertIsNone(node.format_spec, place)

    def test_statements_by_themselves_are_calls(self):
        for path in FILES:
            tree = tree_of(path)
            self.assertTrue(ast.get_docstring(tree), path.name)
            for node in ast.walk(tree):
                if isinstance(node, ast.Expr) and node is not tree.body[0]:
                    self.assertIsInstance(node.value, ast.Call, f"{path.name}:{node.lineno}")

    def test_functions_and_classes(self):
        for place, node in walk():
            if isinstance(node, (ast.FunctionDef, ast.ClassDef)):
                self.assertEqual(node.decorator_list, [], place)
            if isinstance(node, ast.arguments):
                self.assertFalse(node.vararg or node.kwarg or node.kwonlyargs or node.posonlyargs, place)
            if isinstance(node, ast.ClassDef):
                self.assertLessEqual(len(node.bases), 1, place)
                self.assertTrue(all(isinstance(part, (ast.FunctionDef, ast.Pass)) for part in node.body), place)

    def test_no_annotations(self):
        for place, node in walk():
            self.assertIsNone(getattr(node, "annotation", None), place)
            self.assertIsNone(getattr(node, "returns", None), place)

    def test_methods_with_two_underscores(self):
        for place, node in walk():
            if isinstance(node, ast.FunctionDef) and node.name.startswith("__"):
                self.assertEqual(node.name, "__init__", place)
                self.assertEqual([part for part in ast.walk(node) if isinstance(part, ast.Return)], [], place)

    def test_sets_that_are_written_out_and_lambdas(self):
        lambdas = []
        for place, node in walk():
            self.assertNotIsInstance(node, ast.Set, place)
            if isinstance(node, ast.Lambda):
                self.assertNotIn(place, lambdas)
                lambdas.append(place)

    def test_top_of_files(self):
        for path in FILES:
            bound, functions = [], []
            for node in tree_of(path).body[1:]:
                self.assertIsInstance(node, (ast.ImportFrom, ast.Assign, ast.FunctionDef, ast.ClassDef), path.name)
                if isinstance(node, ast.Assign):
                    self.assertTrue(is_plain(node.value, functions), f"{path.name}:{node.lineno}")
                if isinstance(node, ast.FunctionDef):
                    functions.append(node.name)
                bound += [name for part in getattr(node, "targets", [node]) for name in bound_names(part)]
                bound += [alias.name for alias in getattr(node, "names", [])]
            self.assertEqual(len(set(bound)), len(bound), path.name)

    def test_lists_and_dicts_of_the_top_are_only_read(self):
        for path in FILES:
            tree = tree_of(path)
            kept = [part.targets[0].id for part in tree.body if isinstance(part, ast.Assign)
                    and isinstance(part.value, (ast.List, ast.Dict))]
            nodes = list(ast.walk(tree))
            read = [node.value for node in nodes if isinstance(node, ast.Subscript) and isinstance(node.ctx, ast.Load)]
            read += [part for node in nodes if isinstance(node, ast.Compare) for part in node.comparators]
            read += [node.func.value for node in nodes if called(node) == "get"]
            for node in nodes:
                if isinstance(node, ast.Name) and isinstance(node.ctx, ast.Load) and node.id in kept:
                    self.assertIn(node, read, f"{path.name}:{node.lineno}")

    def test_imports(self):
        drawn = {}
        for path in FILES:
            drawn["dykemoot." + path.stem] = modules = []
            for node in ast.walk(tree_of(path)):
                if isinstance(node, ast.ImportFrom):
                    self.assertEqual(node.level, 0, path.name)
                    modules.append(node.module)
                    top = tree_of(PACKAGE / (node.module.split(".")[1] + ".py")).body
                    names = [name for part in top for sub in ([part] if not isinstance(part, ast.Assign)
                                                              else part.targets) for name in bound_names(sub)]
                    for alias in node.names:
                        self.assertIn(alias.name, names, path.name)
                        self.assertIsNone(alias.asname, path.name)
        while drawn:
            free = [name for name in drawn if not any(other in drawn for other in drawn[name])]
            self.assertTrue(free, f"files that draw from one another: {sorted(drawn)}")
            for name in free:
                drawn.pop(name)

    def test_names(self):
        for place, node in walk():
            for name in bound_names(node):
                if name not in UNDERSCORED:
                    self.assertRegex(name, r"\A[A-Za-z][A-Za-z0-9_]*\Z", place)
                    self.assertNotIn(name, NO_NAMES, place)
                    self.assertFalse(hasattr(builtins, name), f"{place}: {name}")
            if isinstance(node, ast.Name) and hasattr(builtins, node.id):
                self.assertIn(node.id, PYTHONS_OWN, place)
            if isinstance(node, ast.Attribute):
                self.assertNotIn(node.attr, NO_NAMES, place)

    def test_locals_are_not_called_like_what_the_file_has(self):
        for path in FILES:
            tree = tree_of(path)
            taken = [name for part in tree.body if isinstance(part, ast.ClassDef) for name in bound_names(part)]
            taken += [alias.name for part in tree.body if isinstance(part, ast.ImportFrom) for alias in part.names]
            for node in ast.walk(tree):
                if isinstance(node, (ast.arg, ast.Name)):
                    for name in bound_names(node):
                        self.assertNotIn(name, taken, f"{path.name}:{node.lineno}")

    def test_walked_at_once(self):
        for path in FILES:
            nodes = list(ast.walk(tree_of(path)))
            walked = [part for node in nodes for part in walked_in(node)]
            for node in nodes:
                if called(node) in WALKED:
                    self.assertIn(node, walked, f"{path.name}:{node.lineno}")

    def test_sets(self):
        for path in FILES:
            nodes = list(ast.walk(tree_of(path)))
            places = [part for node in nodes for part in sets_in(node)]
            for node in nodes:
                if called(node) in ("set", "frozenset") or isinstance(node, ast.Set):
                    self.assertIn(node, places, f"{path.name}:{node.lineno}")

    def test_calls_of_pythons_own(self):
        for place, node in walk():
            if isinstance(node, ast.Call) and called(node) in PYTHONS_OWN | METHODS:
                for keyword in node.keywords:
                    self.assertIn(keyword.arg, KEYWORDS.get(called(node), ()), place)
            if called(node) == "isinstance":
                self.assertIsInstance(node.args[1], (ast.Name, ast.Tuple), place)

    def test_errors_that_are_taken(self):
        own = [part.name for part in tree_of(PACKAGE / "errors.py").body if isinstance(part, ast.ClassDef)]
        for place, node in walk():
            if isinstance(node, ast.ExceptHandler):
                self.assertIsInstance(node.type, ast.Name, place)
                self.assertIn(node.type.id, own + ["KeyError", "ZeroDivisionError", "StopIteration"], place)
            if isinstance(node, ast.Raise):
                self.assertIn(called(node.exc), own, place)

    def test_methods_and_values(self):
        methods, values = set(), set()
        for place, node in walk():
            if isinstance(node, ast.ClassDef):
                own = [part.name for part in node.body if isinstance(part, ast.FunctionDef)]
                self.assertEqual(len(set(own)), len(own), place)
                methods.update(own)
            if isinstance(node, ast.Attribute) and isinstance(node.ctx, ast.Store):
                values.add(node.attr)
        self.assertEqual(methods & values, set())
        taken = {name for own in OWN_VALUES for name in dir(own)}
        self.assertEqual(taken & methods - SHARED_BY_METHODS - set(UNDERSCORED), set())
        self.assertEqual(taken & values - SHARED_BY_VALUES, set())
        for place, node in walk():
            if isinstance(node, ast.Call) and isinstance(node.func, ast.Attribute):
                self.assertIn(node.func.attr, methods | METHODS, place)


if __name__ == "__main__":
    unittest.main()
