"""The package keeps to its small part of Python: what of LANGUAGE.md a walk over the code can see."""

import ast
import builtins
import pathlib
import re
import unittest

PACKAGE = pathlib.Path(__file__).resolve().parent.parent / "hungerhouse"
FILES = sorted(path for path in PACKAGE.rglob("*") if path.is_file() and "__pycache__" not in path.parts)

STATEMENTS = (ast.FunctionDef, ast.ClassDef, ast.ImportFrom, ast.Assign, ast.AugAssign, ast.If, ast.While, ast.For,
              ast.Return, ast.Break, ast.Continue, ast.Pass, ast.Raise, ast.Try, ast.Expr)
EXPRESSIONS = (ast.Constant, ast.List, ast.Tuple, ast.Dict, ast.BinOp, ast.UnaryOp, ast.Compare, ast.BoolOp, ast.IfExp,
               ast.Call, ast.Attribute, ast.Subscript, ast.Slice, ast.ListComp, ast.Name)
OWN_NAMES = {"len", "range", "enumerate", "zip", "min", "max", "sum", "abs", "sorted", "reversed", "int", "str", "bool",
             "list", "tuple", "dict", "isinstance", "any", "all", "divmod", "KeyError", "ValueError"}
WORDS_OUT = re.compile(r"\b(type|typing|typing_extensions|enum|Enum|IntEnum|StrEnum|Flag|IntFlag|Generic|Protocol|ABC|"
                       r"ABCMeta|namedtuple|NamedTuple|TypedDict|TYPE_CHECKING|abstractmethod)\b"
                       r"|dataclass|overload|contextmanager")
NAMES_OUT = {"register", "mro", "elements", "open", "input", "version_info", "with_traceback", "add_note", "format",
             "format_map"}
NAMES_NOT_BOUND = {"attrgetter", "breakpoint", "builtins", "compile", "gc", "importlib", "methodcaller", "os", "sys"}
METHODS = {"append", "extend", "has_more", "take_number", "take_numbers"}
CHANGES = {"append", "clear", "extend", "insert", "pop", "remove", "reverse", "setdefault", "update"}
# What an object of Python's own has as a method or a value, an object of the package's hasn't.
NAMES_OF_VALUES = {name for kept in ("", 0, [], (), {}, set(), b"") for name in dir(kept)}


def walk(path):
    return ast.walk(ast.parse(path.read_text(encoding="ascii")))


def bound_names(node):
    if isinstance(node, (ast.FunctionDef, ast.ClassDef)):
        return [node.name]
    if isinstance(node, ast.arg):
        return [node.arg]
    if isinstance(node, ast.Name) and isinstance(node.ctx, ast.Store):
        return [node.id]
    return []


def top_names(tree):
    """The names bound at a file's top, but for imports, as often as they're bound."""
    return [name for part in tree.body for node in ([part] + getattr(part, "targets", []))
            for name in bound_names(node)]


def drawn_names(tree):
    """Each name that a file imports, with the file it's drawn from."""
    return [(drawn.name, part.module.split(".")[1]) for part in tree.body if isinstance(part, ast.ImportFrom)
            for drawn in part.names]


def trees():
    return {path.stem: ast.parse(path.read_text(encoding="ascii")) for path in FILES}


def each_node():
    for path in FILES:
        for node in walk(path):
            yield f"{path.name}:{getattr(node, 'lineno', 1)}", node


class LanguageTest(unittest.TestCase):
    def test_files(self):
        self.assertIn(PACKAGE / "__init__.py", FILES)
        for path in FILES:
            self.assertRegex(path.name, r"^[a-z0-9_]+\.py$")
            self.assertNotIn(path.stem, dir(builtins))

    def test_signs_and_sizes(self):
        for path in FILES:
            lines = path.read_bytes().decode("ascii").split("\n")
            self.assertLessEqual(len(lines), 401)
            for line in lines:
                with self.subTest(file=path.name, line=line):
                    self.assertRegex(line, r"\A[ -~]{0,120}\Z")
                    self.assertIsNone(WORDS_OUT.search(line))

    def test_statements_and_expressions(self):
        for place, node in each_node():
            if isinstance(node, ast.stmt):
                self.assertIsInstance(node, STATEMENTS, place)
            if isinstance(node, ast.expr):
                self.assertIsInstance(node, EXPRESSIONS, place)
            if isinstance(node, (ast.For, ast.While)):
                self.assertEqual(node.orelse, [], place)
            if isinstance(node, ast.Assign):
                self.assertEqual(len(node.targets), 1, place)
                self.assertNotIsInstance(node.targets[0], (ast.Tuple, ast.List), place)
            if isinstance(node, ast.Constant):
                self.assertIn(type(node.value), (int, str, bool, type(None)), place)
            if isinstance(node, ast.BinOp):
                self.assertNotIsInstance(node.op, (ast.Div, ast.MatMult, ast.Pow), place)

    def test_functions_and_classes(self):
        for place, node in each_node():
            if isinstance(node, ast.FunctionDef):
                self.assertLessEqual(node.end_lineno - node.lineno + 1, 40, place)
                self.assertEqual(node.decorator_list, [], place)
                self.assertIsNone(node.args.vararg or node.args.kwarg, place)
                self.assertEqual(node.args.kwonlyargs, [], place)
            if isinstance(node, ast.ClassDef):
                self.assertTrue(all(isinstance(part, ast.FunctionDef) for part in node.body), place)

    def test_imports(self):
        for place, node in each_node():
            if isinstance(node, ast.ImportFrom):
                self.assertEqual(node.level, 0, place)
                self.assertTrue(node.module.startswith("hungerhouse."), place)
                self.assertTrue(all(drawn.asname is None and drawn.name != "*" for drawn in node.names), place)

    def test_names(self):
        for place, node in each_node():
            for name in bound_names(node):
                self.assertNotIn(name, dir(builtins), place)
                self.assertNotIn(name, NAMES_OUT | NAMES_NOT_BOUND, place)
                self.assertTrue(name == "__init__" or not name.startswith("_"), place)
            if isinstance(node, ast.Attribute):
                self.assertNotIn(node.attr, NAMES_OUT, place)
            if isinstance(node, ast.Name) and node.id in dir(builtins):
                self.assertIn(node.id, OWN_NAMES, place)

    def test_each_name_once_and_none_like_an_import(self):
        for name, tree in trees().items():
            top = top_names(tree) + [drawn for drawn, source in drawn_names(tree)]
            self.assertEqual(len(top), len(set(top)), name)
            classes = {part.name for part in tree.body if isinstance(part, ast.ClassDef)}
            taken = classes | {drawn for drawn, source in drawn_names(tree)}
            for part in tree.body:
                inner = [bound for node in ast.walk(part) if node is not part for bound in bound_names(node)]
                if isinstance(part, (ast.FunctionDef, ast.ClassDef)):
                    self.assertEqual(taken & set(inner), set(), name)

    def test_imports_are_drawn_from_where_they_are_defined_and_used(self):
        for name, tree in trees().items():
            used = {node.id for node in ast.walk(tree) if isinstance(node, ast.Name)}
            for drawn, source in drawn_names(tree):
                self.assertIn(drawn, top_names(trees()[source]), name)
                self.assertIn(drawn, used, name)

    def test_no_two_files_draw_from_one_another(self):
        sources = {name: {source for drawn, source in drawn_names(tree)} for name, tree in trees().items()}
        while sources:
            free = [name for name, drawn in sources.items() if not drawn & set(sources)]
            self.assertNotEqual(free, [], sources)
            for name in free:
                sources.pop(name)

    def test_what_stands_at_the_top_is_plain_and_never_changed(self):
        for name, tree in trees().items():
            for part in tree.body:
                self.assertIsInstance(part, (ast.Expr, ast.ImportFrom, ast.FunctionDef, ast.ClassDef, ast.Assign), name)
                if isinstance(part, ast.Expr):
                    self.assertIsInstance(part.value, ast.Constant, name)
                if isinstance(part, ast.Assign):
                    held = [node for node in ast.walk(part.value) if isinstance(node, (ast.List, ast.Dict))]
                    self.assertEqual([node for node in held if node is not part.value], [], name)
            shared = set(top_names(tree)) | {drawn for drawn, source in drawn_names(tree)}
            for node in ast.walk(tree):
                if isinstance(node, (ast.Subscript, ast.Attribute)) and isinstance(node.ctx, ast.Store):
                    self.assertNotIn(getattr(node.value, "id", None), shared, name)
                if isinstance(node, ast.Attribute) and node.attr in CHANGES:
                    self.assertNotIn(getattr(node.value, "id", None), shared, name)

    def test_values_of_objects(self):
        methods = {part.name for tree in trees().values() for node in ast.walk(tree) if isinstance(node, ast.ClassDef)
                   for part in node.body}
        for place, node in each_node():
            if isinstance(node, ast.Attribute) and isinstance(node.ctx, ast.Store):
                self.assertNotIn(node.attr, NAMES_OF_VALUES, place)
                self.assertNotIn(node.attr, methods, place)

    def test_no_annotation_no_keyword_no_is(self):
        for place, node in each_node():
            self.assertIsNone(getattr(node, "annotation", None), place)
            self.assertIsNone(getattr(node, "returns", None), place)
            if isinstance(node, ast.Call):
                self.assertEqual(node.keywords, [], place)
            if isinstance(node, ast.Compare):
                self.assertFalse(any(isinstance(sign, (ast.Is, ast.IsNot)) for sign in node.ops), place)

    def test_methods(self):
        for place, node in each_node():
            if isinstance(node, ast.Call) and isinstance(node.func, ast.Attribute):
                self.assertIn(node.func.attr, METHODS, place)


if __name__ == "__main__":
    unittest.main()
