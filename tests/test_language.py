"""Holds the package to some of the rules of its language: not to all, so a pass here is no proof."""

import ast
import builtins
import pathlib
import re
import unittest

PACKAGE = pathlib.Path(__file__).resolve().parent.parent / "tracebook"

NODES = """
Module Expr FunctionDef ClassDef arguments arg Return Assign AugAssign For While If Raise Try ExceptHandler
Pass Break Continue ImportFrom alias Call Name Attribute Subscript Slice Constant List Tuple Dict Set ListComp
comprehension BinOp UnaryOp BoolOp Compare IfExp Lambda JoinedStr FormattedValue keyword Load Store
Add Sub Mult FloorDiv Mod Pow BitAnd BitOr BitXor LShift RShift Invert USub UAdd Not And Or
Eq NotEq Lt LtE Gt GtE Is IsNot In NotIn
""".split()

OWN_NAMES = """
len range enumerate zip min max sum abs sorted reversed int str bool list tuple dict set frozenset isinstance
ord repr any all divmod Exception ValueError TypeError KeyError IndexError LookupError ZeroDivisionError
ArithmeticError OverflowError RuntimeError NotImplementedError AttributeError StopIteration
""".split()

OWN_METHODS = """
append clear copy count endswith extend find get index insert isalnum isalpha isdigit islower isspace isupper
items join keys ljust lower lstrip partition pop remove replace reverse rfind rjust rpartition rsplit rstrip
setdefault split splitlines startswith strip update upper values zfill bit_length
""".split()

SPECIAL_METHODS = "__init__ __eq__ __repr__ __str__ __len__".split()

WORDS_LEFT_OUT = re.compile(
    r"\b(type|typing|typing_extensions|enum|Enum|IntEnum|StrEnum|Flag|IntFlag|Generic|Protocol|ABC|ABCMeta"
    r"|namedtuple|NamedTuple|TypedDict|TYPE_CHECKING|abstractmethod)\b|dataclass|overload|contextmanager"
)

TAKEN = [set(dir(kind)) for kind in (str, int, list, dict, set, bytes)]


def files():
    return [(path, path.read_text(encoding="utf-8")) for path in sorted(PACKAGE.glob("*.py"))]


def nodes(kind):
    for path, text in files():
        for node in ast.walk(ast.parse(text)):
            if isinstance(node, kind):
                yield f"{path.name}:{getattr(node, 'lineno', 0)}", node


def bound_names(node):
    if isinstance(node, (ast.FunctionDef, ast.ClassDef)):
        return [node.name]
    if isinstance(node, ast.arg):
        return [node.arg]
    if isinstance(node, ast.Name) and isinstance(node.ctx, ast.Store):
        return [node.id]
    return []


class Language(unittest.TestCase):
    def test_files(self):
        for path in PACKAGE.iterdir():
            if path.name != "__pycache__":
                self.assertRegex(path.name, r"^([a-z][a-z0-9_]*|__init__|__main__)\.py$")

    def test_signs_lines_and_words(self):
        for path, text in files():
            self.assertLessEqual(text.count("\n"), 400, path.name)
            for number, line in enumerate(text.split("\n"), start=1):
                with self.subTest(f"{path.name}:{number}"):
                    self.assertRegex(line, r"^[ -~]{0,120}$")
                    self.assertIsNone(WORDS_LEFT_OUT.search(line))

    def test_statements_and_expressions(self):
        for place, node in nodes(ast.AST):
            self.assertIn(node.__class__.__name__, NODES, place)
        for place, node in nodes(ast.Constant):
            self.assertIsInstance(node.value, (int, str, None.__class__), place)
        for place, node in nodes(ast.Assign):
            self.assertEqual(len(node.targets), 1, place)
        for place, node in nodes(ast.ListComp):
            self.assertEqual(len(node.generators), 1, place)
            self.assertLessEqual(len(node.generators[0].ifs), 1, place)
        for place, node in nodes((ast.For, ast.While)):
            self.assertEqual(node.orelse, [], place)

    def test_words_by_themselves_stand_at_the_top_alone(self):
        for path, text in files():
            top = ast.parse(text).body[:1]
            for node in ast.walk(ast.parse(text)):
                if isinstance(node, ast.Expr) and not isinstance(node.value, ast.Call):
                    self.assertEqual(node.lineno, top[0].lineno, f"{path.name}:{node.lineno}")

    def test_functions(self):
        for place, node in nodes(ast.FunctionDef):
            self.assertLessEqual(node.end_lineno - node.lineno + 1, 40, place)
            self.assertEqual(node.decorator_list, [], place)
            plain = node.args
            self.assertEqual((plain.vararg, plain.kwarg, plain.kwonlyargs, plain.posonlyargs), (None, None, [], []))

    def test_classes(self):
        for place, node in nodes(ast.ClassDef):
            self.assertLessEqual(len(node.bases), 1, place)
            self.assertEqual((node.keywords, node.decorator_list), ([], []), place)
            for part in node.body:
                self.assertIsInstance(part, (ast.FunctionDef, ast.Pass), place)

    def test_imports_are_the_packages_own(self):
        for path, text in files():
            for node in ast.walk(ast.parse(text)):
                if isinstance(node, ast.ImportFrom):
                    self.assertEqual(node.level, 0)
                    self.assertRegex(node.module, r"^tracebook\.[a-z_]+$")
                    self.assertEqual(node.col_offset, 0)
                    names = [name.name for name in node.names]
                    source = (PACKAGE / (node.module.split(".")[1] + ".py")).read_text(encoding="utf-8")
                    defined = [name for top in ast.parse(source).body for name in bound_names(top)]
                    self.assertLessEqual(set(names), set(defined), path.name)

    def test_names(self):
        for place, node in nodes(ast.AST):
            for name in bound_names(node):
                if name not in SPECIAL_METHODS:
                    self.assertRegex(name, r"^[A-Za-z][A-Za-z0-9_]*$", place)
                self.assertNotIn(name, dir(builtins), place)
        for place, node in nodes(ast.Name):
            if node.id in dir(builtins):
                self.assertIn(node.id, OWN_NAMES, place)

    def test_attributes(self):
        for place, node in nodes(ast.Attribute):
            if any(node.attr in names for names in TAKEN):
                self.assertIn(node.attr, OWN_METHODS + SPECIAL_METHODS, place)


if __name__ == "__main__":
    unittest.main()
