"""The rules of form that can be seen in the package's files."""

import ast
import builtins
import pathlib
import re
import unittest

PACKAGE = pathlib.Path(__file__).resolve().parent.parent / "nestsets"
FILES = sorted(path for path in PACKAGE.rglob("*") if path.is_file() and "__pycache__" not in path.parts)

BUILT_IN = set(
    "len range enumerate zip min max sum abs sorted reversed int str bool list tuple dict set frozenset isinstance ord"
    " repr any all divmod Exception ValueError TypeError KeyError IndexError LookupError ZeroDivisionError"
    " ArithmeticError OverflowError RuntimeError NotImplementedError AttributeError StopIteration".split())
METHODS = set(
    "append clear copy count endswith extend find get index insert isalnum isalpha isdigit islower isspace isupper"
    " items join keys ljust lower lstrip partition pop remove replace reverse rfind rjust rpartition rsplit rstrip"
    " setdefault split splitlines startswith strip update upper values zfill bit_length".split())
WORDS = re.compile(
    r"\b(type|typing|typing_extensions|enum|Enum|IntEnum|StrEnum|Flag|IntFlag|Generic|Protocol|ABC|ABCMeta|namedtuple"
    r"|NamedTuple|TypedDict|TYPE_CHECKING|abstractmethod)\b|dataclass|overload|contextmanager")
NODES = set(
    "Module ImportFrom alias FunctionDef arguments arg ClassDef Assign AugAssign If While For Return Break Continue"
    " Pass Raise Try ExceptHandler Expr Call keyword Name Attribute Subscript Slice Constant List Tuple Dict BinOp"
    " UnaryOp BoolOp Compare IfExp ListComp comprehension Lambda JoinedStr FormattedValue Load Store Add Sub Mult"
    " FloorDiv Mod Pow BitAnd BitOr BitXor LShift RShift Invert USub Not And Or Eq NotEq Lt LtE Gt GtE In NotIn Is"
    " IsNot".split())


def trees():
    return [(path.name, ast.parse(path.read_text())) for path in FILES]


def nodes(kinds):
    return [(name, node) for name, tree in trees() for node in ast.walk(tree) if isinstance(node, kinds)]


def docstring(tree):
    return tree.body[0] if tree.body and ast.get_docstring(tree) is not None else None


def top_names(tree):
    names = [node.name for node in tree.body if isinstance(node, (ast.FunctionDef, ast.ClassDef))]
    return names + [target.id for node in tree.body if isinstance(node, ast.Assign) for target in node.targets]


def drawn_from(tree):
    return {node.module.split(".")[1] for node in ast.walk(tree) if isinstance(node, ast.ImportFrom)}


class Form(unittest.TestCase):
    def test_files_and_signs(self):
        self.assertIn("__init__.py", [path.name for path in FILES])
        for path in FILES:
            self.assertRegex(path.name, r"\A(__init__|[a-z][a-z0-9_]*)\.py\Z")
            text = path.read_bytes().decode("ascii")
            self.assertEqual([sign for sign in text if sign != "\n" and not " " <= sign <= "~"], [], path)
            self.assertLessEqual(len(text.split("\n")), 400, path)
            self.assertLessEqual(max(len(row) for row in text.split("\n")), 120, path)
            self.assertIsNone(WORDS.search(text), path)

    def test_only_known_parts_of_the_language(self):
        for name, node in nodes(ast.AST):
            self.assertIn(node.__class__.__name__, NODES, (name, getattr(node, "lineno", 0)))

    def test_statements_by_themselves_are_calls(self):
        for name, tree in trees():
            for node in ast.walk(tree):
                if isinstance(node, ast.Expr) and node != docstring(tree):
                    self.assertIsInstance(node.value, ast.Call, (name, node.lineno))

    def test_imports(self):
        for name, node in nodes(ast.ImportFrom):
            self.assertEqual(node.level, 0, name)
            self.assertRegex(node.module, r"\Anestsets\.[a-z_]+\Z", name)
            for drawn in node.names:
                self.assertNotEqual(drawn.name, "*", name)
                self.assertIsNone(drawn.asname, name)

    def test_names_are_drawn_from_the_file_that_defines_them(self):
        defined = {name[:-3]: top_names(tree) for name, tree in trees()}
        for name, node in nodes(ast.ImportFrom):
            for drawn in node.names:
                self.assertIn(drawn.name, defined[node.module.split(".")[1]], name)

    def test_no_two_files_draw_from_one_another(self):
        left = {name[:-3]: drawn_from(tree) for name, tree in trees()}
        while left:
            free = [name for name, needed in left.items() if not needed & set(left)]
            self.assertNotEqual(free, [], left)
            for name in free:
                left.pop(name)

    def test_each_name_is_bound_once_at_the_top(self):
        for name, tree in trees():
            bound = top_names(tree)
            bound += [drawn.name for node in tree.body if isinstance(node, ast.ImportFrom) for drawn in node.names]
            self.assertEqual(len(bound), len(set(bound)), name)

    def test_the_top_holds_docstring_imports_defs_and_names_alone(self):
        for name, tree in trees():
            self.assertIsNotNone(docstring(tree), name)
            for node in tree.body[1:]:
                self.assertIsInstance(node, (ast.ImportFrom, ast.FunctionDef, ast.ClassDef, ast.Assign), name)

    def test_comprehensions_have_one_walk_and_at_most_one_condition(self):
        for name, node in nodes(ast.ListComp):
            self.assertEqual(len(node.generators), 1, (name, node.lineno))
            self.assertLessEqual(len(node.generators[0].ifs), 1, (name, node.lineno))

    def test_loops_have_no_else(self):
        for name, node in nodes((ast.For, ast.While)):
            self.assertEqual(node.orelse, [], (name, node.lineno))

    def test_names(self):
        for name, node in nodes(ast.Name):
            self.assertFalse(node.id.startswith("_"), (name, node.id))
            if isinstance(node.ctx, ast.Store):
                self.assertFalse(hasattr(builtins, node.id), (name, node.id))
            elif hasattr(builtins, node.id):
                self.assertIn(node.id, BUILT_IN, (name, node.lineno))

    def test_functions(self):
        for name, node in nodes(ast.FunctionDef):
            self.assertLessEqual(node.end_lineno - node.lineno + 1, 40, (name, node.name))
            self.assertEqual(node.decorator_list, [])
            self.assertIsNone(node.args.vararg or node.args.kwarg)
            self.assertEqual(node.args.kwonlyargs, [])
            for argument in node.args.args:
                self.assertFalse(hasattr(builtins, argument.arg), (name, argument.arg))

    def test_no_local_is_called_like_an_import_or_class(self):
        for name, tree in trees():
            taken = [drawn.name for node in ast.walk(tree) if isinstance(node, ast.ImportFrom) for drawn in node.names]
            taken += [node.name for node in ast.walk(tree) if isinstance(node, ast.ClassDef)]
            for node in ast.walk(tree):
                if isinstance(node, ast.arg):
                    self.assertNotIn(node.arg, taken, name)
                if isinstance(node, ast.Name) and isinstance(node.ctx, ast.Store):
                    self.assertNotIn(node.id, taken, name)

    def test_methods(self):
        own = [node.name for _, tree in nodes(ast.ClassDef) for node in tree.body if isinstance(node, ast.FunctionDef)]
        for name, node in nodes(ast.Call):
            if isinstance(node.func, ast.Attribute):
                self.assertIn(node.func.attr, METHODS | set(own), (name, node.lineno))

    def test_powers_are_written_out(self):
        for name, node in nodes(ast.BinOp):
            if isinstance(node.op, ast.Pow):
                self.assertIsInstance(node.right, ast.Constant, (name, node.lineno))
                self.assertIn(node.right.value, range(65), (name, node.lineno))


if __name__ == "__main__":
    unittest.main()
