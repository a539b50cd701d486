"""The package keeps to a small part of Python: the rules of it that a reading of the files can tell."""

import ast
import builtins
import pathlib
import re
import unittest

PACKAGE = pathlib.Path(__file__).resolve().parent.parent / "floatforge"

NODES = {
    "Module", "FunctionDef", "ClassDef", "Return", "Assign", "AugAssign", "For", "While", "If", "Raise", "Try", "Pass",
    "Break", "Continue", "Expr", "ImportFrom", "alias", "arguments", "arg", "keyword", "ExceptHandler", "BoolOp", "And",
    "Or", "BinOp", "Add", "Sub", "Mult", "FloorDiv", "Mod", "Pow", "LShift", "RShift", "BitOr", "BitXor", "BitAnd",
    "UnaryOp", "Not", "USub", "UAdd", "Invert", "Lambda", "IfExp", "Dict", "Set", "ListComp", "comprehension", "Compare",
    "Eq", "NotEq", "Lt", "LtE", "Gt", "GtE", "Is", "IsNot", "In", "NotIn", "Call", "JoinedStr", "FormattedValue",
    "Constant", "Attribute", "Subscript", "Slice", "Name", "Load", "Store", "List", "Tuple",
}
OWN_NAMES = set(
    "len range enumerate zip min max sum abs sorted reversed int str bool list tuple dict set frozenset isinstance ord "
    "repr any all divmod Exception ValueError TypeError KeyError IndexError LookupError ZeroDivisionError "
    "ArithmeticError OverflowError RuntimeError NotImplementedError AttributeError StopIteration".split()
)
METHODS = set(
    "append clear copy count endswith extend find get index insert isalnum isalpha isdigit islower isspace isupper items "
    "join keys ljust lower lstrip partition pop remove replace reverse rfind rjust rpartition rsplit rstrip setdefault "
    "split splitlines startswith strip update upper values zfill bit_length".split()
)
DUNDERS = {"__init__", "__eq__", "__repr__", "__str__", "__len__"}
UNWRITTEN = re.compile(
    r"\b(type|typing|typing_extensions|enum|Enum|IntEnum|StrEnum|Flag|IntFlag|Generic|Protocol|ABC|ABCMeta|namedtuple"
    r"|NamedTuple|TypedDict|TYPE_CHECKING|abstractmethod)\b|dataclass|overload|contextmanager"
)


def package_files():
    return sorted(PACKAGE.rglob("*.py"))


def defined_names(tree):
    """The names that a file defines at its top, without those that it draws from others."""
    names = [node.name for node in tree.body if isinstance(node, (ast.FunctionDef, ast.ClassDef))]
    for node in tree.body:
        if isinstance(node, ast.Assign):
            names.extend(target.id for target in node.targets if isinstance(target, ast.Name))
    return names


def bound_within(function):
    """The names that a function binds: its parameters and its locals."""
    names = [node.arg for node in ast.walk(function) if isinstance(node, ast.arg)]
    return names + [node.id for node in ast.walk(function) if isinstance(node, ast.Name) and isinstance(node.ctx, ast.Store)]


def own_values(tree):
    """The names of the values that the objects of a file's classes are given."""
    stored = [node for node in ast.walk(tree) if isinstance(node, ast.Attribute) and isinstance(node.ctx, ast.Store)]
    return {node.attr for node in stored}


class Language(unittest.TestCase):
    def setUp(self):
        self.texts = {path: path.read_text(encoding="utf-8") for path in package_files()}
        self.trees = {path: ast.parse(text) for path, text in self.texts.items()}
        self.modules = {"floatforge." + path.stem: tree for path, tree in self.trees.items()}

    def each_node(self):
        for path, tree in self.trees.items():
            for node in ast.walk(tree):
                yield f"{path.name}:{getattr(node, 'lineno', 0)}", node

    def test_nothing_but_plain_files(self):
        self.assertIn(PACKAGE / "__init__.py", self.texts)
        for path in PACKAGE.rglob("*"):
            if "__pycache__" not in path.parts:
                self.assertRegex(path.name, r"^(__init__|__main__|[a-z][a-z0-9_]*)\.py$")

    def test_signs_and_sizes(self):
        for path, text in self.texts.items():
            rows = text.split("\n")
            self.assertRegex(text, r"\A[ -~\n]*\Z", path.name)
            self.assertLessEqual(len(rows) - 1, 400, path.name)
            self.assertLessEqual(max(len(row) for row in rows), 120, path.name)
            self.assertIsNone(UNWRITTEN.search(text), path.name)

    def test_functions_are_short(self):
        for place, node in self.each_node():
            if isinstance(node, ast.FunctionDef):
                self.assertLessEqual(node.end_lineno - node.lineno + 1, 40, place)

    def test_forms(self):
        for place, node in self.each_node():
            self.assertIn(node.__class__.__name__, NODES, place)
            if isinstance(node, ast.Assign):
                self.assertEqual(len(node.targets), 1, place)
            if isinstance(node, ast.Constant):
                self.assertIn(node.value.__class__, (int, str, bool, None.__class__), place)
            if isinstance(node, ast.FunctionDef):
                self.assertEqual(node.decorator_list, [], place)
                self.assertIsNone(node.args.vararg or node.args.kwarg, place)
                self.assertEqual(node.args.kwonlyargs, [], place)
            if isinstance(node, ast.BinOp) and isinstance(node.op, ast.Pow):
                self.assertIsInstance(node.right, ast.Constant, place)

    def test_imports(self):
        for place, node in self.each_node():
            if isinstance(node, ast.ImportFrom):
                self.assertEqual(node.level, 0, place)
                self.assertIn(node.module, self.modules, place)
                for alias in node.names:
                    self.assertIn(alias.name, defined_names(self.modules[node.module]), place)

    def test_no_two_files_draw_from_one_another(self):
        drawn = {
            name: {node.module for node in tree.body if isinstance(node, ast.ImportFrom)}
            for name, tree in self.modules.items()
        }
        while drawn:
            free = [name for name, sources in drawn.items() if not sources & set(drawn)]
            self.assertNotEqual(free, [], f"these draw from one another: {sorted(drawn)}")
            drawn = {name: sources for name, sources in drawn.items() if name not in free}

    def test_names(self):
        foreign = set(dir(builtins)) - OWN_NAMES
        for place, node in self.each_node():
            if isinstance(node, ast.Name):
                self.assertRegex(node.id, "^[A-Za-z]", place)
                self.assertNotIn(node.id, foreign, place)
                if isinstance(node.ctx, ast.Store):
                    self.assertFalse(hasattr(builtins, node.id), place)
            if isinstance(node, ast.arg):
                self.assertRegex(node.arg, "^[A-Za-z]", place)
                self.assertFalse(hasattr(builtins, node.arg), place)
            if isinstance(node, (ast.FunctionDef, ast.ClassDef)):
                self.assertTrue(node.name in DUNDERS or node.name[0] != "_", place)

    def test_each_name_at_the_top_is_bound_once(self):
        for path, tree in self.trees.items():
            drawn = [alias.name for node in tree.body if isinstance(node, ast.ImportFrom) for alias in node.names]
            names = defined_names(tree) + drawn
            self.assertEqual(len(names), len(set(names)), path.name)

    def test_no_local_is_called_like_a_class_or_an_import(self):
        for path, tree in self.trees.items():
            drawn = {alias.name for node in tree.body if isinstance(node, ast.ImportFrom) for alias in node.names}
            classes = {node.name for node in tree.body if isinstance(node, ast.ClassDef)}
            for node in ast.walk(tree):
                if isinstance(node, (ast.FunctionDef, ast.Lambda)):
                    self.assertEqual(set(bound_within(node)) & (drawn | classes), set(), f"{path.name}:{node.lineno}")

    def test_no_name_is_a_method_and_a_value(self):
        methods = {node.name for place, each in self.each_node() if isinstance(each, ast.ClassDef)
                   for node in each.body if isinstance(node, ast.FunctionDef)}
        for path, tree in self.trees.items():
            self.assertEqual(own_values(tree) & methods, set(), path.name)

    def test_small_forms(self):
        for place, node in self.each_node():
            if isinstance(node, ast.Compare) and any(isinstance(op, (ast.Is, ast.IsNot)) for op in node.ops):
                beside = [node.left] + node.comparators
                self.assertTrue(any(isinstance(one, ast.Constant) and one.value in (None, True, False) for one in beside), place)
            if isinstance(node, ast.Constant) and isinstance(node.value, str):
                self.assertNotIn("%", node.value, place)
            if isinstance(node, ast.Assign):
                self.assertIsInstance(node.targets[0], (ast.Name, ast.Attribute, ast.Subscript), place)
            if isinstance(node, ast.FunctionDef):
                self.assertIsNone(node.returns, place)
            if isinstance(node, ast.arg):
                self.assertIsNone(node.annotation, place)
            if isinstance(node, ast.FormattedValue):
                self.assertIsInstance(node.value, ast.Name, place)
            if isinstance(node, ast.keyword):
                self.assertIn(node.arg, ("key", "reverse", "default", "start", "strict"), place)

    def test_methods(self):
        own = {node.name for place, node in self.each_node() if isinstance(node, ast.FunctionDef)}
        for place, node in self.each_node():
            if isinstance(node, ast.Call) and isinstance(node.func, ast.Attribute):
                self.assertIn(node.func.attr, METHODS | own, place)


if __name__ == "__main__":
    unittest.main()
