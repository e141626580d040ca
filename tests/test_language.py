"""The package keeps to the part of Python that it's to be written in, as far as that can be seen from its files."""

import ast
import pathlib
import re
import unittest

PACKAGE = pathlib.Path(__file__).resolve().parent.parent / "spellareas"
FILES = sorted(path for path in PACKAGE.rglob("*") if "__pycache__" not in path.parts)

STATEMENTS = (
    ast.FunctionDef, ast.ClassDef, ast.ImportFrom, ast.Assign, ast.AugAssign, ast.If, ast.While, ast.For, ast.Return, ast.Break,
    ast.Continue, ast.Pass, ast.Raise, ast.Try, ast.Expr,
)
EXPRESSIONS = (
    ast.BoolOp, ast.BinOp, ast.UnaryOp, ast.IfExp, ast.Dict, ast.ListComp, ast.Compare, ast.Call, ast.Constant, ast.Attribute,
    ast.Subscript, ast.Name, ast.List, ast.Tuple, ast.Slice, ast.Lambda, ast.JoinedStr, ast.FormattedValue,
)
OPERATORS = (
    ast.Add, ast.Sub, ast.Mult, ast.FloorDiv, ast.Mod, ast.BitAnd, ast.BitOr, ast.BitXor, ast.LShift, ast.RShift,
    ast.And, ast.Or, ast.Not, ast.USub, ast.Invert,
    ast.Eq, ast.NotEq, ast.Lt, ast.LtE, ast.Gt, ast.GtE, ast.In, ast.NotIn, ast.Is, ast.IsNot,
)
BUILT_IN = (
    "len range enumerate zip min max sum abs sorted reversed int str bool list tuple dict set frozenset isinstance ord repr any all "
    "divmod Exception ValueError KeyError IndexError LookupError ZeroDivisionError ArithmeticError OverflowError RuntimeError "
    "NotImplementedError StopIteration"
).split()
METHODS = (
    "append clear copy count endswith extend find get index insert isalnum isalpha isdigit islower isspace isupper items join keys "
    "ljust lower lstrip partition pop remove replace reverse rfind rjust rpartition rsplit rstrip setdefault split splitlines "
    "startswith strip update upper values zfill bit_length"
).split()
WORDS = re.compile(
    r"\b(type|typing|typing_extensions|enum|Enum|IntEnum|StrEnum|Flag|IntFlag|Generic|Protocol|ABC|ABCMeta|namedtuple|NamedTuple"
    r"|TypedDict|TYPE_CHECKING|abstractmethod)\b|dataclass|overload|contextmanager"
)
UNUSED = "register mro elements open input version_info with_traceback add_note format format_map".split()


def is_plain(node):
    """Whether a value at a file's top is written out."""
    if isinstance(node, ast.UnaryOp):
        return isinstance(node.op, ast.USub) and is_plain(node.operand)
    if isinstance(node, (ast.Tuple, ast.List)):
        return all(is_plain(each) for each in node.elts)
    if isinstance(node, ast.Dict):
        return all(is_plain(each) for each in node.keys + node.values)
    return isinstance(node, ast.Constant)


class Language(unittest.TestCase):
    def setUp(self):
        self.trees = {path: ast.parse(path.read_text("ascii")) for path in FILES}

    def nodes(self, *kinds):
        for path, tree in self.trees.items():
            for node in ast.walk(tree):
                if isinstance(node, kinds):
                    yield path.name, node

    def test_files(self):
        self.assertIn(PACKAGE / "__init__.py", FILES)
        self.assertIn(PACKAGE / "level.py", FILES)
        for path in FILES:
            self.assertRegex(path.name, r"^([a-z][a-z0-9_]*|__init__)\.py$")
            lines = path.read_text("ascii").split("\n")
            self.assertLessEqual(len(lines), 400, path)
            for line in lines:
                self.assertRegex(line, r"^[ -~]{0,120}$", path)
                self.assertIsNone(WORDS.search(line), line)

    def test_imports(self):
        for name, node in self.nodes(ast.ImportFrom):
            self.assertEqual(node.level, 0, name)
            defined = PACKAGE.parent / (node.module.replace(".", "/") + ".py")
            self.assertIn(defined, FILES)
            for alias in node.names:
                self.assertIsNone(alias.asname)
                self.assertIn(alias.name, self.top_names(self.trees[defined]), name)

    def top_names(self, tree):
        names = [node.name for node in tree.body if isinstance(node, (ast.FunctionDef, ast.ClassDef))]
        return names + [target.id for node in tree.body if isinstance(node, ast.Assign) for target in node.targets]

    def test_no_file_draws_from_itself(self):
        drawn = {
            path.stem: [node.module.split(".")[-1] for node in ast.walk(tree) if isinstance(node, ast.ImportFrom)]
            for path, tree in self.trees.items()
        }
        while drawn:
            ends = [name for name in drawn if not any(other in drawn for other in drawn[name])]
            self.assertTrue(ends, drawn)
            drawn = {name: others for name, others in drawn.items() if name not in ends}

    def test_tops(self):
        for path, tree in self.trees.items():
            self.assertTrue(ast.get_docstring(tree), path)
            names = self.top_names(tree)
            self.assertEqual(len(names), len(set(names)), path)
            for node in tree.body[1:]:
                self.assertIsInstance(node, (ast.ImportFrom, ast.FunctionDef, ast.ClassDef, ast.Assign), path)
                if isinstance(node, ast.Assign):
                    self.assertTrue(is_plain(node.value), (path, node.lineno))

    def test_statements_and_expressions(self):
        for name, node in self.nodes(ast.stmt):
            self.assertIsInstance(node, STATEMENTS, (name, node.lineno))
        for name, node in self.nodes(ast.expr):
            self.assertIsInstance(node, EXPRESSIONS, (name, node.lineno))
        for name, node in self.nodes(ast.operator, ast.boolop, ast.unaryop, ast.cmpop):
            self.assertIsInstance(node, OPERATORS, name)
        for name, node in self.nodes(ast.Assign):
            self.assertEqual(len(node.targets), 1, (name, node.lineno))
            self.assertIsInstance(node.targets[0], (ast.Name, ast.Attribute, ast.Subscript), (name, node.lineno))
        for name, node in self.nodes(ast.For, ast.While):
            self.assertEqual(node.orelse, [], (name, node.lineno))
        for name, node in self.nodes(ast.ListComp):
            self.assertEqual(len(node.generators), 1, (name, node.lineno))
            self.assertLessEqual(len(node.generators[0].ifs), 1, (name, node.lineno))
        for name, node in self.nodes(ast.Try):
            self.assertEqual(node.finalbody, [], (name, node.lineno))
            self.assertTrue(all(handler.type is not None for handler in node.handlers), (name, node.lineno))
        for name, node in self.nodes(ast.Constant):
            self.assertTrue(node.value is None or isinstance(node.value, (int, str)), (name, node.lineno))
            self.assertFalse(isinstance(node.value, str) and "%" in node.value, (name, node.lineno))
        for name, node in self.nodes(ast.Compare):
            for operator, right in zip(node.ops, node.comparators, strict=True):
                if isinstance(operator, (ast.Is, ast.IsNot)):
                    self.assertIn(getattr(right, "value", 0), (None, True, False), (name, node.lineno))

    def test_functions_and_classes(self):
        for name, node in self.nodes(ast.FunctionDef):
            self.assertLessEqual(node.end_lineno - node.lineno + 1, 40, (name, node.name))
            self.assertEqual(node.decorator_list, [], (name, node.name))
            self.assertIsNone(node.args.vararg or node.args.kwarg or node.returns, (name, node.name))
            self.assertEqual(node.args.kwonlyargs + node.args.posonlyargs, [], (name, node.name))
        methods, values = [], []
        for name, node in self.nodes(ast.ClassDef):
            self.assertIn([base.id for base in node.bases], ([], ["Exception"]), (name, node.name))
            own = [each.name for each in node.body if isinstance(each, ast.FunctionDef)]
            self.assertEqual(len(own), len(set(own)), (name, node.name))
            methods += own
            values += [each.attr for each in ast.walk(node) if isinstance(each, ast.Attribute) and isinstance(each.ctx, ast.Store)]
        self.assertEqual(set(methods) & set(values), set())

    def test_names(self):
        for path, tree in self.trees.items():
            top = self.top_names(tree)
            for node in ast.walk(tree):
                if isinstance(node, ast.ImportFrom):
                    top += [alias.name for alias in node.names]
            for function in [node for node in ast.walk(tree) if isinstance(node, ast.FunctionDef)]:
                self.assert_names(path.name, function, top)

    def assert_names(self, path, function, top):
        bound = [argument.arg for argument in function.args.args]
        for node in ast.walk(function):
            if isinstance(node, ast.Name) and isinstance(node.ctx, ast.Store):
                bound.append(node.id)
            if isinstance(node, ast.ExceptHandler) and node.name:
                bound.append(node.name)
        for name in bound:
            self.assertRegex(name, r"^[A-Za-z][A-Za-z0-9_]*$", path)
            self.assertNotIn(name, top, (path, function.name))
            self.assertNotIn(name, dir(__builtins__) if not isinstance(__builtins__, dict) else __builtins__, (path, function.name))
            self.assertNotIn(name, UNUSED, (path, function.name))
        for node in ast.walk(function):
            if isinstance(node, ast.Name) and isinstance(node.ctx, ast.Load):
                self.assertIn(node.id, bound + top + BUILT_IN, (path, node.lineno))
            if isinstance(node, ast.Attribute):
                self.assertNotIn(node.attr, UNUSED, (path, node.lineno))

    def test_methods(self):
        own = [each.name for name, node in self.nodes(ast.ClassDef) for each in node.body if isinstance(each, ast.FunctionDef)]
        for name, node in self.nodes(ast.Call):
            if isinstance(node.func, ast.Attribute):
                self.assertIn(node.func.attr, METHODS + own, (name, node.lineno))
            else:
                self.assertIsInstance(node.func, ast.Name, (name, node.lineno))
            self.assertEqual(node.keywords, [], (name, node.lineno))


if __name__ == "__main__":
    unittest.main()
