"""The package keeps to its small part of Python: what of LANGUAGE.md a walk over the code can see."""

import ast
import builtins
import pathlib
import re
import unittest

PACKAGE = pathlib.Path(__file__).resolve().parent.parent / "hungerhouse"
FILES = sorted(path for path in PACKAGE.rglob("*") if path.is_file() and "__pycache__" not in path.parts)

STATEMENTS = (ast.FunctionDef, ast.ClassDef, ast.ImportFrom, ast.Assign, ast.AugAssign, ast.If, ast.While, ast.For,
              ast.Return, ast.Break, ast.Continue, ast.Pass, ast.Raise, ast.Try, ast.Expr)
EXPRESSIONS = (ast.Constant, ast.List, ast.Tuple, ast.Dict, ast.BinOp, ast.UnaryOp, ast.Compare, ast.BoolOp, ast.IfExp,
               ast.Call, ast.Attribute, ast.Subscript, ast.Slice, ast.ListComp, ast.Name)
OWN_NAMES = {"len", "range", "enumerate", "zip", "min", "max", "sum", "abs", "sorted", "reversed", "int", "str", "bool",
             "list", "tuple", "dict", "isinstance", "any", "all", "divmod", "KeyError", "ValueError"}
WORDS_OUT = re.compile(r"\b(type|typing|typing_extensions|enum|Enum|IntEnum|StrEnum|Flag|IntFlag|Generic|Protocol|ABC|"
                       r"ABCMeta|namedtuple|NamedTuple|TypedDict|TYPE_CHECKING|abstractmethod)\b"
                       r"|dataclass|overload|contextmanager")
NAMES_OUT = {"register", "mro", "elements", "open", "input", "version_info", "with_traceback", "add_note", "format",
             "format_map"}
METHODS = {"append", "extend", "has_more", "take_number", "take_numbers"}


def walk(path):
    return ast.walk(ast.parse(path.read_text(encoding="ascii")))


def bound_names(node):
    if isinstance(node, (ast.FunctionDef, ast.ClassDef)):
        return [node.name]
    if isinstance(node, ast.arg):
        return [node.arg]
    if isinstance(node, ast.Name) and isinstance(node.ctx, ast.Store):
        return [node.id]
    return []


def each_node():
    for path in FILES:
        for node in walk(path):
            yield f"{path.name}:{getattr(node, 'lineno', 1)}", node


class LanguageTest(unittest.TestCase):
    def test_files(self):
        self.assertIn(PACKAGE / "__init__.py", FILES)
        for path in FILES:
            self.assertRegex(path.name, r"^[a-z0-9_]+\.py$")
            self.assertNotIn(path.stem, dir(builtins))

    def test_signs_and_sizes(self):
        for path in FILES:
            lines = path.read_bytes().decode("ascii").split("\n")
            self.assertLessEqual(len(lines), 401)
            for line in lines:
                with self.subTest(file=path.name, line=line):
                    self.assertRegex(line, r"\A[ -~]{0,120}\Z")
                    self.assertIsNone(WORDS_OUT.search(line))

    def test_statements_and_expressions(self):
        for place, node in each_node():
            if isinstance(node, ast.stmt):
                self.assertIsInstance(node, STATEMENTS, place)
            if isinstance(node, ast.expr):
                self.assertIsInstance(node, EXPRESSIONS, place)
            if isinstance(node, (ast.For, ast.While)):
                self.assertEqual(node.orelse, [], place)
            if isinstance(node, ast.Assign):
                self.assertEqual(len(node.targets), 1, place)
                self.assertNotIsInstance(node.targets[0], (ast.Tuple, ast.List), place)
            if isinstance(node, ast.Constant):
                self.assertIn(type(node.value), (int, str, bool, type(None)), place)
            if isinstance(node, ast.BinOp):
                self.assertNotIsInstance(node.op, (ast.Div, ast.MatMult, ast.Pow), place)

    def test_functions_and_classes(self):
        for place, node in each_node():
            if isinstance(node, ast.FunctionDef):
                self.assertLessEqual(node.end_lineno - node.lineno + 1, 40, place)
                self.assertEqual(node.decorator_list, [], place)
                self.assertIsNone(node.args.vararg or node.args.kwarg, place)
                self.assertEqual(node.args.kwonlyargs, [], place)
            if isinstance(node, ast.ClassDef):
                self.assertTrue(all(isinstance(part, ast.FunctionDef) for part in node.body), place)

    def test_imports(self):
        for place, node in each_node():
            if isinstance(node, ast.ImportFrom):
                self.assertEqual(node.level, 0, place)
                self.assertTrue(node.module.startswith("hungerhouse."), place)
                self.assertTrue(all(drawn.asname is None and drawn.name != "*" for drawn in node.names), place)

    def test_names(self):
        for place, node in each_node():
            for name in bound_names(node):
                self.assertNotIn(name, dir(builtins), place)
                self.assertNotIn(name, NAMES_OUT, place)
                self.assertTrue(name == "__init__" or not name.startswith("_"), place)
            if isinstance(node, ast.Attribute):
                self.assertNotIn(node.attr, NAMES_OUT, place)
            if isinstance(node, ast.Name) and node.id in dir(builtins):
                self.assertIn(node.id, OWN_NAMES, place)

    def test_methods(self):
        for place, node in each_node():
            if isinstance(node, ast.Call) and isinstance(node.func, ast.Attribute):
                self.assertIn(node.func.attr, METHODS, place)


if __name__ == "__main__":
    unittest.main()
