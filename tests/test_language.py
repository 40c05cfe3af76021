"""Holds the package to some of the rules of its language: not to all, so a pass here is no proof."""

import ast
import builtins
import pathlib
import re
import unittest

PACKAGE = pathlib.Path(__file__).resolve().parent.parent / "tracebook"

NODES = """
Module Expr FunctionDef ClassDef arguments arg Return Assign AugAssign For While If Raise Try ExceptHandler
Pass Break Continue ImportFrom alias Call Name Attribute Subscript Slice Constant List Tuple Dict Set ListComp
comprehension BinOp UnaryOp BoolOp Compare IfExp Lambda JoinedStr FormattedValue keyword Load Store
Add Sub Mult FloorDiv Mod Pow BitAnd BitOr BitXor LShift RShift Invert USub UAdd Not And Or
Eq NotEq Lt LtE Gt GtE Is IsNot In NotIn
""".split()

OWN_NAMES = """
len range enumerate zip min max sum abs sorted reversed int str bool list tuple dict set frozenset isinstance
ord repr any all divmod Exception ValueError TypeError KeyError IndexError LookupError ZeroDivisionError
ArithmeticError OverflowError RuntimeError NotImplementedError AttributeError StopIteration
""".split()

OWN_METHODS = """
append clear copy count endswith extend find get index insert isalnum isalpha isdigit islower isspace isupper
items join keys ljust lower lstrip partition pop remove replace reverse rfind rjust rpartition rsplit rstrip
setdefault split splitlines startswith strip update upper values zfill bit_length
""".split()

SPECIAL_METHODS = "__init__ __eq__ __repr__ __str__ __len__".split()

WORDS_LEFT_OUT = re.compile(
    r"\b(type|typing|typing_extensions|enum|Enum|IntEnum|StrEnum|Flag|IntFlag|Generic|Protocol|ABC|ABCMeta"
    r"|namedtuple|NamedTuple|TypedDict|TYPE_CHECKING|abstractmethod)\b|dataclass|overload|contextmanager"
)

TAKEN = [set(dir(kind)) for kind in (str, int, list, dict, set, bytes)]

NAMES_LEFT_OUT = """
register mro elements open input version_info with_traceback add_note attrgetter breakpoint builtins compile copyright
credits delattr dir eval exec exit gc getattr globals hasattr help id importlib license locals methodcaller os quit
setattr super type vars sys __name__
""".split()

WALKED = "zip enumerate reversed range".split()
WALKED_METHODS = "items keys values".split()
WALKERS = "list tuple dict sorted sum any all enumerate zip min max".split()
CHANGES = "append clear extend insert pop remove reverse setdefault update".split()


def files():
    return [(path, path.read_text(encoding="utf-8")) for path in sorted(PACKAGE.glob("*.py"))]


def nodes(kind):
    for path, text in files():
        for node in ast.walk(ast.parse(text)):
            if isinstance(node, kind):
                yield f"{path.name}:{getattr(node, 'lineno', 0)}", node


def trees():
    """Each file's name and tree, where each node below the top knows the one above it."""
    for path, text in files():
        tree = ast.parse(text)
        for node in ast.walk(tree):
            for below in ast.iter_child_nodes(node):
                below.above = node
        yield path.name, tree


def called(node, names):
    return isinstance(node, ast.Call) and isinstance(node.func, ast.Name) and node.func.id in names


def walks(node):
    """Whether this is a value that is to be walked on the spot."""
    by_method = isinstance(node, ast.Call) and isinstance(node.func, ast.Attribute) and node.func.attr in WALKED_METHODS
    return called(node, WALKED) or by_method


def walked_names(loop):
    """The names of what a loop walks, itself or through one of Python's own."""
    source = loop.iter
    found = source.args if called(source, WALKED) else [source]
    return {ast.unparse(some) for some in found if isinstance(some, (ast.Name, ast.Attribute))}


def changed_names(node):
    """The names of what a statement or a call changes."""
    if isinstance(node, ast.Call) and isinstance(node.func, ast.Attribute) and node.func.attr in CHANGES:
        return {ast.unparse(node.func.value)}
    if isinstance(node, ast.Subscript) and isinstance(node.ctx, ast.Store):
        return {ast.unparse(node.value)}
    return set()


def bound_names(node):
    if isinstance(node, (ast.FunctionDef, ast.ClassDef)):
        return [node.name]
    if isinstance(node, ast.arg):
        return [node.arg]
    if isinstance(node, ast.Name) and isinstance(node.ctx, ast.Store):
        return [node.id]
    return []


class Language(unittest.TestCase):
    def test_files(self):
        for path in PACKAGE.iterdir():
            if path.name != "__pycache__":
                self.assertRegex(path.name, r"^([a-z][a-z0-9_]*|__init__|__main__)\.py$")

    def test_signs_lines_and_words(self):
        for path, text in files():
            self.assertLessEqual(text.count("\n"), 400, path.name)
            for number, line in enumerate(text.split("\n"), start=1):
                with self.subTest(f"{path.name}:{number}"):
                    self.assertRegex(line, r"^[ -~]{0,120}$")
                    self.assertIsNone(WORDS_LEFT_OUT.search(line))

    def test_statements_and_expressions(self):
        for place, node in nodes(ast.AST):
            self.assertIn(node.__class__.__name__, NODES, place)
        for place, node in nodes(ast.Constant):
            self.assertIsInstance(node.value, (int, str, None.__class__), place)
        for place, node in nodes(ast.Assign):
            self.assertEqual(len(node.targets), 1, place)
        for place, node in nodes(ast.ListComp):
            self.assertEqual(len(node.generators), 1, place)
            self.assertLessEqual(len(node.generators[0].ifs), 1, place)
        for place, node in nodes((ast.For, ast.While)):
            self.assertEqual(node.orelse, [], place)

    def test_words_by_themselves_stand_at_the_top_alone(self):
        for path, text in files():
            top = ast.parse(text).body[:1]
            for node in ast.walk(ast.parse(text)):
                if isinstance(node, ast.Expr) and not isinstance(node.value, ast.Call):
                    self.assertEqual(node.lineno, top[0].lineno, f"{path.name}:{node.lineno}")

    def test_functions(self):
        for place, node in nodes(ast.FunctionDef):
            self.assertLessEqual(node.end_lineno - node.lineno + 1, 40, place)
            self.assertEqual(node.decorator_list, [], place)
            plain = node.args
            self.assertEqual((plain.vararg, plain.kwarg, plain.kwonlyargs, plain.posonlyargs), (None, None, [], []))

    def test_classes(self):
        for place, node in nodes(ast.ClassDef):
            self.assertLessEqual(len(node.bases), 1, place)
            self.assertEqual((node.keywords, node.decorator_list), ([], []), place)
            for part in node.body:
                self.assertIsInstance(part, (ast.FunctionDef, ast.Pass), place)

    def test_imports_are_the_packages_own(self):
        for path, text in files():
            for node in ast.walk(ast.parse(text)):
                if isinstance(node, ast.ImportFrom):
                    self.assertEqual(node.level, 0)
                    self.assertRegex(node.module, r"^tracebook\.[a-z_]+$")
                    self.assertEqual(node.col_offset, 0)
                    names = [name.name for name in node.names]
                    source = (PACKAGE / (node.module.split(".")[1] + ".py")).read_text(encoding="utf-8")
                    defined = [name for top in ast.parse(source).body for name in bound_names(top)]
                    self.assertLessEqual(set(names), set(defined), path.name)

    def test_names(self):
        for place, node in nodes(ast.AST):
            for name in bound_names(node):
                if name not in SPECIAL_METHODS:
                    self.assertRegex(name, r"^[A-Za-z][A-Za-z0-9_]*$", place)
                self.assertNotIn(name, dir(builtins), place)
        for place, node in nodes(ast.Name):
            if node.id in dir(builtins):
                self.assertIn(node.id, OWN_NAMES, place)

    def test_attributes(self):
        for place, node in nodes(ast.Attribute):
            if any(node.attr in names for names in TAKEN):
                self.assertIn(node.attr, OWN_METHODS + SPECIAL_METHODS, place)

    def test_names_that_are_not_used(self):
        for place, node in nodes((ast.Name, ast.Attribute, ast.arg, ast.FunctionDef)):
            used = bound_names(node) or [getattr(node, "id", None) or getattr(node, "attr", None)]
            self.assertNotIn(used[0], NAMES_LEFT_OUT, place)

    def test_no_local_is_called_like_an_import_or_a_class_of_its_file(self):
        for name, tree in trees():
            tops = {node.name for node in tree.body if isinstance(node, ast.ClassDef)}
            imported = [one.name for node in tree.body if isinstance(node, ast.ImportFrom) for one in node.names]
            self.assertEqual(len(imported), len(set(imported)), name)
            for node in ast.walk(tree):
                if isinstance(node, (ast.arg, ast.Name, ast.FunctionDef)):
                    taken = set(bound_names(node)) & (tops | set(imported))
                    self.assertEqual(taken, set(), f"{name}:{node.lineno}")
            used = {node.id for node in ast.walk(tree) if isinstance(node, ast.Name)}
            self.assertLessEqual(set(imported), used, name)

    def test_each_name_is_bound_once_at_a_files_top(self):
        for name, tree in trees():
            bound = []
            for node in tree.body:
                targets = node.targets if isinstance(node, ast.Assign) else [node]
                bound.extend(one for target in targets for one in bound_names(target))
            self.assertEqual(len(bound), len(set(bound)), name)

    def test_no_two_files_draw_from_one_another(self):
        drawn = {}
        for name, tree in trees():
            sources = [node.module.split(".")[1] for node in tree.body if isinstance(node, ast.ImportFrom)]
            drawn[name[:-3]] = set(sources)
            self.assertEqual(len(sources), len(set(sources)), name)
        while drawn:
            free = [name for name, sources in drawn.items() if not sources & set(drawn)]
            self.assertNotEqual(free, [], drawn)
            for name in free:
                drawn.pop(name)

    def test_no_name_is_a_method_and_a_value(self):
        methods, values = set(), set()
        for name, tree in trees():
            for node in ast.walk(tree):
                if isinstance(node, ast.ClassDef):
                    here = [method.name for method in node.body if isinstance(method, ast.FunctionDef)]
                    self.assertEqual(len(here), len(set(here)), name)
                    methods.update(here)
                if isinstance(node, ast.Attribute) and isinstance(node.ctx, ast.Store):
                    self.assertIsInstance(node.value, ast.Name, name)
                    values.add(node.attr)
        self.assertEqual(methods & values, set())
        for own in (methods - set(SPECIAL_METHODS)) | values:
            self.assertFalse(any(own in names for names in TAKEN), own)

    def test_classes_are_called_or_stand_as_bases(self):
        found = list(trees())
        names = {node.name for name, tree in found for node in tree.body if isinstance(node, ast.ClassDef)}
        for name, tree in found:
            for node in ast.walk(tree):
                if isinstance(node, ast.Name) and node.id in names:
                    above = node.above
                    as_base = isinstance(above, ast.ClassDef) and node in above.bases
                    as_call = isinstance(above, ast.Call) and node == above.func
                    as_init = isinstance(above, ast.Attribute) and above.attr == "__init__"
                    self.assertTrue(as_base or as_call or as_init, f"{name}:{node.lineno}")

    def test_what_is_walked_is_walked_on_the_spot(self):
        for name, tree in trees():
            for node in ast.walk(tree):
                if walks(node):
                    above = node.above
                    in_loop = isinstance(above, (ast.For, ast.comprehension)) and node == above.iter
                    in_call = called(above, WALKERS) and node in above.args
                    self.assertTrue(in_loop or in_call, f"{name}:{node.lineno}")

    def test_what_a_loop_walks_is_not_changed_in_it(self):
        for name, tree in trees():
            for loop in ast.walk(tree):
                if isinstance(loop, ast.For):
                    below = [node for some in loop.body for node in ast.walk(some)]
                    changed = set().union(*[changed_names(node) for node in below])
                    self.assertEqual(changed & walked_names(loop), set(), f"{name}:{loop.lineno}")

    def test_sets_are_not_kept(self):
        for name, tree in trees():
            for node in ast.walk(tree):
                self.assertFalse(isinstance(node, ast.Set) or called(node, ["frozenset"]), name)
                if called(node, ["set"]):
                    asked = isinstance(node.above, ast.Compare)
                    self.assertTrue(asked or called(node.above, ["sorted", "len"]), f"{name}:{node.lineno}")

    def test_is_stands_beside_none_true_and_false_alone(self):
        for place, node in nodes(ast.Compare):
            if isinstance(node.ops[0], (ast.Is, ast.IsNot)):
                self.assertIn(ast.unparse(node.comparators[0]), ("None", "True", "False"), place)

    def test_powers_and_texts(self):
        for place, node in nodes(ast.BinOp):
            if isinstance(node.op, ast.Pow):
                self.assertIsInstance(node.right, ast.Constant, place)
        for place, node in nodes(ast.Constant):
            self.assertFalse(isinstance(node.value, str) and "%" in node.value, place)


if __name__ == "__main__":
    unittest.main()
