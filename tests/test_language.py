"""Whether the package keeps to its part of Python (the rules L1 to L28, as far as a test sees them)."""

import ast
import builtins
import pathlib
import re
import unittest

PACKAGE = pathlib.Path(__file__).resolve().parent.parent / "askwithin"
FILES = sorted(PACKAGE.rglob("*.py"))
TREES = {path: ast.parse(path.read_text(encoding="utf-8")) for path in FILES}

OWN_NAMES = set(
    "len range enumerate zip min max sum abs sorted reversed int str bool list tuple dict set frozenset isinstance "
    "ord repr any all divmod Exception ValueError TypeError KeyError IndexError LookupError ZeroDivisionError "
    "ArithmeticError OverflowError RuntimeError NotImplementedError AttributeError StopIteration".split()
)
OWN_METHODS = set(
    "append clear copy count endswith extend find get index insert isalnum isalpha isdigit islower isspace isupper "
    "items join keys ljust lower lstrip partition pop remove replace reverse rfind rjust rpartition rsplit rstrip "
    "setdefault split splitlines startswith strip update upper values zfill bit_length".split()
)
NODES = set(
    "Module Expr Constant ImportFrom alias FunctionDef arguments arg Lambda ClassDef Assign AugAssign If While For "
    "Return Break Continue Pass Raise Try ExceptHandler Call keyword Attribute Subscript Slice Name Load Store "
    "List Tuple Dict BinOp UnaryOp BoolOp Compare IfExp ListComp comprehension JoinedStr FormattedValue "
    "Add Sub Mult FloorDiv Mod Pow BitAnd BitOr BitXor LShift RShift USub UAdd Invert Not And Or "
    "Eq NotEq Lt LtE Gt GtE Is IsNot In NotIn".split()
)
UNUSED_NAMES = set(
    "register mro elements open input version_info with_traceback add_note attrgetter breakpoint builtins compile "
    "copyright credits delattr dir eval exec exit gc getattr globals hasattr help id importlib license locals "
    "methodcaller os quit setattr super type vars sys chr format format_map".split()
)
UNUSED_WORDS = re.compile(
    r"\b(type|typing|typing_extensions|enum|Enum|IntEnum|StrEnum|Flag|IntFlag|Generic|Protocol|ABC|ABCMeta|namedtuple"
    r"|NamedTuple|TypedDict|TYPE_CHECKING|abstractmethod)\b|dataclass|overload|contextmanager"
)
SPECIAL_METHODS = {"__init__", "__eq__", "__repr__", "__str__", "__len__"}


def module_of(path):
    return "askwithin." + path.stem


def bound_at_top(tree):
    names = []
    for node in tree.body:
        if isinstance(node, (ast.FunctionDef, ast.ClassDef)):
            names.append(node.name)
        elif isinstance(node, ast.Assign):
            names.extend(target.id for target in node.targets)
        elif isinstance(node, ast.ImportFrom):
            names.extend(alias.name for alias in node.names)
    return names


def names_within(tree):
    for node in ast.walk(tree):
        if isinstance(node, (ast.FunctionDef, ast.ClassDef)):
            yield node.name
        elif isinstance(node, ast.Name):
            yield node.id
        elif isinstance(node, ast.arg):
            yield node.arg
        elif isinstance(node, ast.Attribute):
            yield node.attr


def methods_and_values():
    """The names of methods, and of values that objects keep, of all classes of the package."""
    methods, values = set(), set()
    for tree in TREES.values():
        for made in [node for node in tree.body if isinstance(node, ast.ClassDef)]:
            methods |= {node.name for node in made.body if isinstance(node, ast.FunctionDef)}
            values |= {node.attr for node in ast.walk(made)
                       if isinstance(node, ast.Attribute) and isinstance(node.ctx, ast.Store)}
    return methods, values


class TestLanguage(unittest.TestCase):
    def test_nothing_but_files_of_python_with_plain_names(self):
        for path in PACKAGE.rglob("*"):
            if "__pycache__" not in path.parts:
                self.assertTrue(path.is_file() and re.fullmatch(r"__init__\.py|[a-z][a-z0-9_]*\.py", path.name), path)

    def test_signs_and_sizes(self):
        for path in FILES:
            rows = path.read_bytes().decode("ascii").split("\n")
            self.assertLessEqual(len(rows), 401, path)
            for number, row in enumerate(rows, start=1):
                self.assertTrue(len(row) <= 120 and re.fullmatch(r"[ -~]*", row), f"{path}:{number}")
                self.assertIsNone(UNUSED_WORDS.search(row), f"{path}:{number}")
            for node in ast.walk(TREES[path]):
                if isinstance(node, ast.FunctionDef):
                    self.assertLessEqual(node.end_lineno - node.lineno + 1, 40, f"{path}: {node.name}")

    def test_statements_and_expressions(self):
        for path, tree in TREES.items():
            for node in ast.walk(tree):
                self.assertIn(node.__class__.__name__, NODES, f"{path}:{getattr(node, 'lineno', 0)}")
                self.check_node(node, f"{path}:{getattr(node, 'lineno', 0)}")

    def check_node(self, node, place):
        if isinstance(node, (ast.FunctionDef, ast.ClassDef)):
            self.assertEqual(node.decorator_list, [], place)
        if isinstance(node, ast.arguments):
            self.assertFalse(node.vararg or node.kwarg or node.kwonlyargs or node.posonlyargs, place)
        if isinstance(node, ast.ClassDef):
            self.assertLessEqual(len(node.bases), 1, place)
        if isinstance(node, ast.Assign):
            self.assertEqual(len(node.targets), 1, place)
        if isinstance(node, (ast.For, ast.While)):
            self.assertEqual(node.orelse, [], place)
        if isinstance(node, ast.Try):
            self.assertEqual(node.finalbody, [], place)
        if isinstance(node, ast.Constant):
            self.assertIsInstance(node.value, (int, str, bool, type(None)), place)
            self.assertNotIn("%", str(node.value), place)
        if isinstance(node, ast.ListComp):
            self.assertTrue(len(node.generators) == 1 and len(node.generators[0].ifs) <= 1, place)
        if isinstance(node, ast.Compare) and any(isinstance(op, (ast.Is, ast.IsNot)) for op in node.ops):
            self.assertTrue(all(isinstance(side, ast.Constant) for side in node.comparators), place)
        if isinstance(node, ast.BinOp) and isinstance(node.op, ast.Pow):
            self.assertTrue(isinstance(node.right, ast.Constant) and 0 <= node.right.value <= 64, place)

    def test_names(self):
        known = set(dir(builtins))
        for path, tree in TREES.items():
            own = set(bound_at_top(tree))
            for name in names_within(tree):
                self.assertNotIn(name, UNUSED_NAMES, path)
                if name not in SPECIAL_METHODS:
                    self.assertRegex(name, r"^[A-Za-z][A-Za-z0-9_]*$", path)
            for node in ast.walk(tree):
                if isinstance(node, ast.Name) and isinstance(node.ctx, ast.Load) and node.id in known:
                    self.assertIn(node.id, OWN_NAMES, path)
                if isinstance(node, ast.Name) and isinstance(node.ctx, ast.Store) or isinstance(node, ast.arg):
                    self.assertNotIn(node.arg if isinstance(node, ast.arg) else node.id, known, path)
            self.assertEqual(len(own), len(bound_at_top(tree)), path)

    def test_no_local_is_called_like_a_class_or_an_import(self):
        for path, tree in TREES.items():
            taken = {alias.name for node in tree.body if isinstance(node, ast.ImportFrom) for alias in node.names}
            taken |= {node.name for node in tree.body if isinstance(node, ast.ClassDef)}
            for node in ast.walk(tree):
                if isinstance(node, ast.arg):
                    self.assertNotIn(node.arg, taken, path)
                if isinstance(node, ast.Name) and isinstance(node.ctx, ast.Store):
                    self.assertNotIn(node.id, taken, path)

    def test_methods_and_values(self):
        methods, values = methods_and_values()
        self.assertEqual(methods & values, set())
        for path, tree in TREES.items():
            for node in ast.walk(tree):
                if isinstance(node, ast.Attribute):
                    self.assertIn(node.attr, OWN_METHODS | methods | values, f"{path}:{node.lineno}")

    def test_imports(self):
        tops = {module_of(path): tree for path, tree in TREES.items()}
        draws = {}
        for module, tree in tops.items():
            rows = [node for node in ast.walk(tree) if isinstance(node, ast.ImportFrom)]
            draws[module] = [row.module for row in rows]
            for row in rows:
                self.assertTrue(row in tree.body and row.level == 0 and row.module in tops, module)
                drawn = tops[row.module].body
                defined = bound_at_top(ast.Module([node for node in drawn if not isinstance(node, ast.ImportFrom)], []))
                for alias in row.names:
                    self.assertIn(alias.name, defined, module)
        done = []
        while len(done) < len(draws):
            ready = [module for module in draws if module not in done and set(draws[module]) <= set(done)]
            self.assertNotEqual(ready, [], "files draw from one another in a round")
            done.extend(ready)

    def test_sets_are_not_kept(self):
        for path, tree in TREES.items():
            inside = set()
            for node in ast.walk(tree):
                if isinstance(node, ast.Call) and isinstance(node.func, ast.Name) and node.func.id in ("len", "sorted"):
                    inside |= {id(part) for given in node.args for part in [given] + self.sides(given)}
                if isinstance(node, ast.Compare):
                    inside |= {id(part) for given in [node.left] + node.comparators for part in self.sides(given)}
            for node in ast.walk(tree):
                if isinstance(node, ast.Call) and isinstance(node.func, ast.Name) and node.func.id == "set":
                    self.assertIn(id(node), inside, f"{path}:{node.lineno}")

    def sides(self, node):
        """The node, or both sides of it, and theirs, where sets are joined by an operator."""
        if isinstance(node, ast.BinOp):
            return self.sides(node.left) + self.sides(node.right)
        return [node]


if __name__ == "__main__":
    unittest.main()
