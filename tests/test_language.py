"""The form of the package's files, as far as a test can see it; the numbers are those of the rules' rows."""

import ast
import pathlib
import re
import unittest

PACKAGE = pathlib.Path(__file__).resolve().parent.parent / "fewpoints"

STATEMENTS = """ImportFrom FunctionDef ClassDef Assign AugAssign If While For Return Break Continue Pass Raise Try
    ExceptHandler Expr""".split()
EXPRESSIONS = """Constant List Tuple Dict BinOp UnaryOp BoolOp Compare IfExp Call keyword Attribute Subscript Slice
    ListComp comprehension JoinedStr FormattedValue Name Lambda arguments arg alias Module""".split()
BASES = (ast.expr_context, ast.operator, ast.unaryop, ast.boolop, ast.cmpop)

OWN_NAMES = """len range enumerate zip min max sum abs sorted reversed int str bool list tuple dict set frozenset
    isinstance ord repr any all divmod Exception ValueError TypeError KeyError IndexError LookupError
    ZeroDivisionError ArithmeticError OverflowError RuntimeError NotImplementedError AttributeError
    StopIteration""".split()
METHODS = """append clear copy count endswith extend find get index insert isalnum isalpha isdigit islower isspace
    isupper items join keys ljust lower lstrip partition pop remove replace reverse rfind rjust rpartition rsplit
    rstrip setdefault split splitlines startswith strip update upper values zfill bit_length""".split()
WORDS = """type typing typing_extensions enum Enum IntEnum StrEnum Flag IntFlag Generic Protocol ABC ABCMeta
    namedtuple NamedTuple TypedDict TYPE_CHECKING abstractmethod""".split()


def files():
    return sorted(PACKAGE.glob("*.py"))


def trees():
    return [(path.name, ast.parse(path.read_text("utf-8"))) for path in files()]


def nodes():
    return [(name, node) for name, tree in trees() for node in ast.walk(tree)]


def bound_names(tree):
    names = []
    for node in ast.walk(tree):
        if isinstance(node, (ast.FunctionDef, ast.ClassDef)):
            names.append(node.name)
        elif isinstance(node, ast.arg):
            names.append(node.arg)
        elif isinstance(node, ast.Name) and isinstance(node.ctx, ast.Store):
            names.append(node.id)
        elif isinstance(node, ast.alias):
            names.append(node.asname or node.name)
        elif isinstance(node, ast.ExceptHandler) and node.name:
            names.append(node.name)
    return names


def defined_at_top(path):
    names = []
    for part in ast.parse(path.read_text("utf-8")).body:
        if isinstance(part, (ast.FunctionDef, ast.ClassDef)):
            names.append(part.name)
        elif isinstance(part, ast.Assign):
            names.append(part.targets[0].id)
    return names


def drawn_from(tree):
    return [node.module.partition(".")[2] + ".py" for node in ast.walk(tree) if isinstance(node, ast.ImportFrom)]


class Files(unittest.TestCase):
    def test_l1_l14_the_folder(self):
        names = [path.name for path in PACKAGE.iterdir() if path.name != "__pycache__"]
        self.assertIn("__init__.py", names)
        for name in names:
            self.assertRegex(name, r"\A(__init__|[a-z][a-z0-9_]*)\.py\Z")

    def test_l10_l14_signs_and_sizes(self):
        for path in files():
            rows = path.read_bytes().decode("ascii").split("\n")
            self.assertLessEqual(len(rows), 400, path)
            for row in rows:
                self.assertRegex(row, r"\A[ -~]{0,120}\Z")

    def test_l17_words(self):
        for path in files():
            text = path.read_text("utf-8")
            for word in WORDS:
                self.assertIsNone(re.search(rf"\b{word}\b", text), (path, word))
            self.assertIsNone(re.search("dataclass|overload|contextmanager", text), path)


class Trees(unittest.TestCase):
    def test_l2_l16_imports(self):
        names = [path.stem for path in files()]
        for name, node in nodes():
            if isinstance(node, ast.ImportFrom):
                package, _, module = node.module.partition(".")
                self.assertEqual((package, node.level), ("fewpoints", 0), name)
                self.assertIn(module, names)
                for alias in node.names:
                    self.assertIn(alias.name, defined_at_top(PACKAGE / f"{module}.py"), name)

    def test_l16_no_file_draws_from_itself_over_others(self):
        drawn = {name: drawn_from(tree) for name, tree in trees()}
        for name in drawn:
            waiting, seen = list(drawn[name]), set()
            while waiting:
                other = waiting.pop()
                self.assertNotEqual(other, name)
                if other not in seen:
                    seen.add(other)
                    waiting.extend(drawn[other])

    def test_l3_the_top_of_a_module(self):
        for name, tree in trees():
            self.assertIsNotNone(ast.get_docstring(tree), name)
            for part in tree.body[1:]:
                self.assertIsInstance(part, (ast.ImportFrom, ast.FunctionDef, ast.ClassDef, ast.Assign), name)

    def test_l4_l10_functions(self):
        for name, node in nodes():
            if isinstance(node, ast.FunctionDef):
                self.assertLessEqual(node.end_lineno - node.lineno + 1, 40, (name, node.name))
                self.assertEqual(node.decorator_list, [])
                self.assertIsNone(node.returns)
            if isinstance(node, ast.arguments):
                self.assertEqual((node.vararg, node.kwarg, node.kwonlyargs, node.posonlyargs), (None, None, [], []))

    def test_l5_classes(self):
        for name, node in nodes():
            if isinstance(node, ast.ClassDef):
                self.assertLessEqual(len(node.bases), 1, name)
                self.assertEqual((node.keywords, node.decorator_list), ([], []))
                for part in node.body:
                    self.assertIsInstance(part, (ast.FunctionDef, ast.Pass), name)

    def test_l6_l7_forms(self):
        allowed = STATEMENTS + EXPRESSIONS
        for name, node in nodes():
            place = (name, getattr(node, "lineno", None), type(node).__name__)
            self.assertTrue(isinstance(node, BASES) or type(node).__name__ in allowed, place)
            if isinstance(node, ast.Constant):
                self.assertIn(type(node.value), (int, str, bool, type(None)), place)
            if isinstance(node, ast.Div):
                self.fail(place)
            if isinstance(node, ast.Assign):
                self.assertEqual(len(node.targets), 1, place)
                self.assertNotIsInstance(node.targets[0], (ast.Tuple, ast.List), place)
            if isinstance(node, ast.ListComp):
                self.assertEqual(len(node.generators), 1, place)
                self.assertLessEqual(len(node.generators[0].ifs), 1, place)
            if isinstance(node, (ast.For, ast.While)):
                self.assertEqual(node.orelse, [], place)
            if isinstance(node, ast.Try):
                self.assertEqual(node.finalbody, [], place)

    def test_l6_expressions_by_themselves_are_calls(self):
        for name, tree in trees():
            for node in ast.walk(tree):
                if isinstance(node, ast.Expr) and node is not tree.body[0]:
                    self.assertIsInstance(node.value, ast.Call, (name, node.lineno))

    def test_l8_names_that_are_read_are_known(self):
        for name, tree in trees():
            known = bound_names(tree) + OWN_NAMES
            for node in ast.walk(tree):
                if isinstance(node, ast.Name):
                    self.assertIn(node.id, known, (name, node.lineno))

    def test_l12_l15_names_that_are_bound(self):
        python = dir(__builtins__) if not isinstance(__builtins__, dict) else list(__builtins__)
        for name, tree in trees():
            for bound in bound_names(tree):
                self.assertRegex(bound, r"\A[A-Za-z][A-Za-z0-9_]*\Z", name)
                self.assertNotIn(bound, python, name)

    def test_l15_names_of_a_top(self):
        for path, (name, tree) in zip(files(), trees()):
            at_top = defined_at_top(path)
            self.assertEqual(len(at_top), len(set(at_top)), name)
            drawn = [alias.name for node in tree.body if isinstance(node, ast.ImportFrom) for alias in node.names]
            classes = [node.name for node in tree.body if isinstance(node, ast.ClassDef)]
            for node in ast.walk(tree):
                if isinstance(node, ast.arg):
                    self.assertNotIn(node.arg, drawn + classes, (name, node.lineno))
                if isinstance(node, ast.Name) and isinstance(node.ctx, ast.Store):
                    self.assertNotIn(node.id, drawn + classes, (name, node.lineno))

    def test_l19_errors(self):
        own = defined_at_top(PACKAGE / "errors.py")
        for name, node in nodes():
            if isinstance(node, ast.ExceptHandler):
                self.assertIn(node.type.id, own, name)
            if isinstance(node, ast.Raise):
                self.assertIn(node.exc.func.id, own, name)

    def test_l24_sets(self):
        for name, tree in trees():
            held = [
                part
                for node in ast.walk(tree)
                if isinstance(node, ast.Call) and getattr(node.func, "id", None) in ("sorted", "len")
                for part in node.args
            ]
            for node in ast.walk(tree):
                if isinstance(node, ast.Call) and getattr(node.func, "id", None) in ("set", "frozenset"):
                    self.assertIn(node, held, (name, node.lineno))

    def test_l20_is(self):
        for name, node in nodes():
            if isinstance(node, ast.Compare) and any(isinstance(op, (ast.Is, ast.IsNot)) for op in node.ops):
                right = node.comparators[-1]
                self.assertTrue(isinstance(right, ast.Constant) and right.value in (None, True, False), name)

    def test_l25_methods(self):
        for name, node in nodes():
            if isinstance(node, ast.Call) and isinstance(node.func, ast.Attribute):
                self.assertIn(node.func.attr, METHODS, (name, node.lineno))

    def test_l27_signs_in_texts(self):
        for name, node in nodes():
            if isinstance(node, ast.Constant) and isinstance(node.value, str):
                self.assertNotIn("%", node.value, (name, node.lineno))


if __name__ == "__main__":
    unittest.main()
