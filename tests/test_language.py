"""The form of the package's own files, as far as a plain look at them tells."""

import ast
import builtins
import pathlib
import re
import unittest

PACKAGE = pathlib.Path(__file__).resolve().parent.parent / "tintrow"
ALLOWED_NAMES = set(
    "len range enumerate zip min max sum abs sorted reversed int str bool list tuple dict set frozenset isinstance ord "
    "repr any all divmod Exception ValueError TypeError KeyError IndexError LookupError ZeroDivisionError "
    "ArithmeticError OverflowError RuntimeError NotImplementedError AttributeError StopIteration".split()
)
ALLOWED_METHODS = set(
    "append clear copy count endswith extend find get index insert isalnum isalpha isdigit islower isspace isupper "
    "items join keys ljust lower lstrip partition pop remove replace reverse rfind rjust rpartition rsplit rstrip "
    "setdefault split splitlines startswith strip update upper values zfill bit_length __init__".split()
)
SPECIAL_METHODS = {"__init__", "__eq__", "__repr__", "__str__", "__len__"}
ALLOWED_NODES = set(
    "Module Expr Constant ImportFrom alias FunctionDef arguments arg ClassDef Assign AugAssign If While For Return "
    "Break Continue Pass Raise Try ExceptHandler Name Load Store Attribute Subscript Slice Call keyword List Tuple Dict "
    "Set BinOp Add Sub Mult FloorDiv Mod Pow LShift RShift BitAnd BitOr BitXor UnaryOp USub UAdd Invert Not BoolOp And "
    "Or Compare Eq NotEq Lt LtE Gt GtE In NotIn Is IsNot IfExp ListComp comprehension JoinedStr FormattedValue "
    "Lambda".split()
)
NO_WORDS = re.compile(
    r"\b(type|typing|typing_extensions|enum|Enum|IntEnum|StrEnum|Flag|IntFlag|Generic|Protocol|ABC|ABCMeta|namedtuple|"
    r"NamedTuple|TypedDict|TYPE_CHECKING|abstractmethod)\b|dataclass|overload|contextmanager"
)
WALKED = set("zip enumerate reversed range items keys values".split())
WALKERS = set("list tuple dict sorted sum any all enumerate zip min max join".split())
NO_NAMES = set("register mro elements open input version_info with_traceback add_note format format_map args".split())


def nodes(tree, *kinds):
    return [node for node in ast.walk(tree) if isinstance(node, kinds)]


def called_name(node):
    return node.func.attr if isinstance(node.func, ast.Attribute) else getattr(node.func, "id", None)


class Form(unittest.TestCase):
    def setUp(self):
        self.texts = {path.name: path.read_text("ascii") for path in sorted(PACKAGE.glob("*.py"))}
        self.trees = {name: ast.parse(text) for name, text in self.texts.items()}

    def each(self, *kinds):
        return [(f"{name}:{node.lineno}", node) for name, tree in self.trees.items() for node in nodes(tree, *kinds)]

    def own_methods(self):
        return {part.name for where, node in self.each(ast.ClassDef) for part in node.body if isinstance(part, ast.FunctionDef)}

    def test_files(self):
        others = [path.name for path in PACKAGE.iterdir() if path.suffix != ".py" and path.name != "__pycache__"]
        self.assertEqual(others, [])
        for name in self.texts:
            self.assertRegex(name, r"^([a-z][a-z0-9_]*|__init__|__main__)\.py$")
            self.assertNotIn(name[:-3], dir(builtins))

    def test_signs_and_sizes(self):
        for name, text in self.texts.items():
            self.assertRegex(text, r"\A[ -~\n]*\Z", name)
            rows = text.splitlines()
            self.assertLessEqual(len(rows), 400, name)
            for number, row in enumerate(rows, 1):
                self.assertLessEqual(len(row), 120, (name, number))
                self.assertIsNone(NO_WORDS.search(row), (name, number))
        for where, node in self.each(ast.FunctionDef):
            self.assertLessEqual(node.end_lineno - node.lineno + 1, 40, where)

    def test_statements_and_expressions(self):
        for name, tree in self.trees.items():
            for node in ast.walk(tree):
                where = (name, getattr(node, "lineno", 0))
                self.assertIn(node.__class__.__name__, ALLOWED_NODES, where)
                self.assertFalse(getattr(node, "decorator_list", []), where)
        for where, node in self.each(ast.For, ast.While):
            self.assertFalse(node.orelse, where)
        for where, node in self.each(ast.Assign):
            self.assertEqual(len(node.targets), 1, where)
        for where, node in self.each(ast.FunctionDef, ast.Lambda):
            parts = node.args
            self.assertFalse(parts.vararg or parts.kwarg or parts.kwonlyargs or parts.posonlyargs, where)

    def test_values(self):
        for where, node in self.each(ast.Constant):
            self.assertIn(type(node.value), (int, str, bool, type(None)), where)
            self.assertNotIn("%", str(node.value), where)
        for where, node in self.each(ast.FormattedValue):
            self.assertIsInstance(node.value, ast.Name, where)
            self.assertIsNone(node.format_spec, where)
        for where, node in self.each(ast.Compare):
            for sign, right in zip(node.ops, node.comparators):
                if isinstance(sign, (ast.Is, ast.IsNot)):
                    self.assertIsInstance(right, ast.Constant, where)

    def test_imports(self):
        draws = {}
        for name, tree in self.trees.items():
            rows = nodes(tree, ast.ImportFrom)
            for row in rows:
                self.assertEqual(row.level, 0, name)
                self.assertRegex(row.module, r"^tintrow\.[a-z_]+$", name)
                self.assertNotIn("*", [part.name for part in row.names], name)
            draws[name] = {row.module.split(".")[1] + ".py" for row in rows}
        left = dict(draws)
        while left:
            free = [name for name in left if not left[name] & set(left)]
            self.assertTrue(free, "files draw from one another: " + " ".join(left))
            left = {name: left[name] for name in left if name not in free}

    def test_names(self):
        for where, node in self.each(ast.Name):
            self.assertRegex(node.id, r"^[A-Za-z][A-Za-z0-9_]*$", where)
            self.assertNotIn(node.id, NO_NAMES, where)
            if hasattr(builtins, node.id):
                self.assertIn(node.id, ALLOWED_NAMES, where)
                self.assertIsInstance(node.ctx, ast.Load, where)
        for where, node in self.each(ast.arg):
            self.assertRegex(node.arg, r"^[A-Za-z][A-Za-z0-9_]*$", where)
            self.assertFalse(hasattr(builtins, node.arg), where)
        for where, node in self.each(ast.FunctionDef):
            self.assertTrue(node.name in SPECIAL_METHODS or re.match("^[a-z]", node.name), where)
            self.assertNotIn(node.name, NO_NAMES, where)

    def test_no_local_is_called_like_a_class_or_an_import_of_its_file(self):
        for name, tree in self.trees.items():
            taken = {part.name for row in nodes(tree, ast.ImportFrom) for part in row.names}
            taken |= {part.name for part in nodes(tree, ast.ClassDef)}
            bound = {part.arg for part in nodes(tree, ast.arg)}
            bound |= {part.id for part in nodes(tree, ast.Name) if isinstance(part.ctx, ast.Store)}
            self.assertEqual(taken & bound, set(), name)

    def test_each_name_stands_once_at_a_files_top(self):
        for name, tree in self.trees.items():
            bound = [part.name for row in nodes(tree, ast.ImportFrom) for part in row.names]
            bound += [part.name for part in tree.body if isinstance(part, (ast.FunctionDef, ast.ClassDef))]
            bound += [part.targets[0].id for part in tree.body if isinstance(part, ast.Assign)]
            self.assertEqual(len(bound), len(set(bound)), name)

    def test_walked_at_once(self):
        for name, tree in self.trees.items():
            walked = {id(node.iter) for node in nodes(tree, ast.For, ast.comprehension)}
            for node in nodes(tree, ast.Call):
                if called_name(node) in WALKERS and node.args:
                    walked.add(id(node.args[0]))
            for node in nodes(tree, ast.Call):
                if called_name(node) in WALKED:
                    self.assertIn(id(node), walked, (name, node.lineno))

    def test_methods_and_fields(self):
        own = self.own_methods()
        called = {id(node.func) for where, node in self.each(ast.Call)}
        for where, node in self.each(ast.Attribute):
            self.assertNotIn(node.attr, NO_NAMES, where)
            if id(node) in called:
                self.assertIn(node.attr, ALLOWED_METHODS | own, where)
            else:
                self.assertNotIn(node.attr, own, where)


if __name__ == "__main__":
    unittest.main()
