"""Those rules of LANGUAGE.md that can be read off the package's files as they are written."""

import ast
import builtins
import os
import re
import unittest

TOP = os.path.dirname(os.path.dirname(os.path.abspath(__file__)))
PACKAGE = "figuresort"

FORMS = set("""
Module Expr Constant Assign AugAssign Name Load Store Del Delete Attribute Subscript Slice Tuple List Dict Starred
ImportFrom alias FunctionDef arguments arg Lambda ClassDef Return If While For Break Continue Pass Raise Assert
Try ExceptHandler BinOp UnaryOp BoolOp Compare IfExp Call keyword ListComp DictComp SetComp Set comprehension
JoinedStr FormattedValue
Add Sub Mult FloorDiv Mod Pow LShift RShift BitOr BitXor BitAnd Invert Not UAdd USub And Or
Eq NotEq Lt LtE Gt GtE Is IsNot In NotIn
""".split())

OWN_NAMES = set("""
len range enumerate zip min max sum abs sorted reversed int str bool bytes list tuple dict set frozenset isinstance
ord repr any all divmod Exception ValueError TypeError KeyError IndexError LookupError ZeroDivisionError
ArithmeticError OverflowError RuntimeError NotImplementedError AttributeError StopIteration
""".split())

DEEP_METHODS = {"__init__", "__eq__", "__repr__", "__str__", "__len__"}

OUT_WORDS = re.compile(
    r"\b(type|typing|typing_extensions|enum|Enum|IntEnum|StrEnum|Flag|IntFlag|Generic|Protocol|ABC|ABCMeta|namedtuple"
    r"|NamedTuple|TypedDict|TYPE_CHECKING|abstractmethod)\b|dataclass|overload|contextmanager"
)

OUT_NAMES = set("""
register mro elements open input version_info with_traceback add_note format format_map attrgetter breakpoint builtins
compile copyright credits delattr dir eval exec exit gc getattr globals hasattr help id importlib license locals
methodcaller os quit setattr super vars sys chr print
""".split())

OWN_METHODS = set("""
append clear copy count endswith extend find get index insert isalnum isalpha isdigit islower isspace isupper items
join keys ljust lower lstrip partition pop remove replace reverse rfind rjust rpartition rsplit rstrip setdefault split
splitlines startswith strip update upper values zfill bit_length title capitalize swapcase casefold center expandtabs
removeprefix removesuffix rindex isascii isdecimal isnumeric istitle isidentifier isprintable
""".split())

FREE_VALUES = {"count", "index", "title", "find", "get", "join", "lower", "upper", "split", "strip", "copy", "add"}

PYTHONS_VALUES = {name for kind in (str, int, list, tuple, dict, set, bytes) for name in dir(kind)} | {"args"}


def package_files():
    folder = os.path.join(TOP, PACKAGE)
    return sorted(name for name in os.listdir(folder) if name != "__pycache__")


def text_of(name):
    with open(os.path.join(TOP, PACKAGE, name), "rb") as file:
        return file.read().decode("utf-8")


def trees():
    return [(name, ast.parse(text_of(name))) for name in package_files()]


def nodes(kind):
    return [(name, node) for name, tree in trees() for node in ast.walk(tree) if isinstance(node, kind)]


def bound_names(node):
    """The names that a row gives, or that a def, a parameter, a handler or an import row binds."""
    if isinstance(node, ast.Name) and not isinstance(node.ctx, ast.Load):
        return [node.id]
    if isinstance(node, (ast.FunctionDef, ast.ClassDef)):
        return [node.name]
    if isinstance(node, ast.arg):
        return [node.arg]
    if isinstance(node, ast.ExceptHandler) and node.name:
        return [node.name]
    if isinstance(node, ast.alias):
        return [node.asname or node.name]
    return []


def methods_and_values():
    """The names of all methods of the package's classes, and of all values that objects are given."""
    methods = {row.name for _, node in nodes(ast.ClassDef) for row in node.body if isinstance(row, ast.FunctionDef)}
    given = {node.attr for _, node in nodes(ast.Attribute) if isinstance(node.ctx, ast.Store)}
    return (methods - DEEP_METHODS, given)


class Files(unittest.TestCase):
    def test_names(self):
        self.assertIn("__init__.py", package_files())
        for name in package_files():
            self.assertRegex(name, r"\A([a-z][a-z0-9_]*|__init__)\.py\Z")
            self.assertNotRegex(name, r"\A(law_|test|site|conftest|usercustomize)")

    def test_signs_and_sizes(self):
        for name in package_files():
            rows = text_of(name).split("\n")
            self.assertLessEqual(len(rows), 401, name)
            for row in rows:
                self.assertLessEqual(len(row), 120, (name, row))
                self.assertRegex(row, r"\A[ -~]*\Z", (name, row))

    def test_words(self):
        for name in package_files():
            self.assertIsNone(OUT_WORDS.search(text_of(name)), name)


class Forms(unittest.TestCase):
    def test_nothing_else_is_written(self):
        for name, node in nodes(ast.AST):
            self.assertIn(node.__class__.__name__, FORMS, (name, getattr(node, "lineno", None)))

    def test_functions_are_small_and_plain(self):
        for name, node in nodes(ast.FunctionDef):
            self.assertLessEqual(node.end_lineno - node.lineno + 1, 40, (name, node.name))
            self.assertEqual(node.decorator_list, [])
            taken = node.args
            self.assertEqual((taken.vararg, taken.kwarg, taken.posonlyargs), (None, None, []), (name, node.name))

    def test_no_float_no_else_behind_a_loop(self):
        for name, node in nodes(ast.Constant):
            self.assertNotIsInstance(node.value, (float, complex), name)
            if isinstance(node.value, str):
                self.assertNotIn(chr(37), node.value, name)
        for name, node in nodes((ast.For, ast.While)):
            self.assertEqual(node.orelse, [], name)

    def test_exponents_are_written(self):
        for name, node in nodes(ast.BinOp):
            if isinstance(node.op, ast.Pow):
                self.assertIsInstance(node.right, ast.Constant, name)

    def test_is_beside_none_true_false_alone(self):
        for name, node in nodes(ast.Compare):
            for sign, right in zip(node.ops, node.comparators):
                if isinstance(sign, (ast.Is, ast.IsNot)):
                    self.assertIn(getattr(right, "value", 0), (None, True, False), name)

    def test_top_of_a_file(self):
        for name, tree in trees():
            for at, row in enumerate(tree.body):
                if at == 0:
                    self.assertIsInstance(row.value.value, str, name)
                else:
                    self.assertIsInstance(row, (ast.ImportFrom, ast.FunctionDef, ast.ClassDef, ast.Assign), name)
            names = [bound for row in tree.body for part in [row] + getattr(row, "targets", getattr(row, "names", []))
                     for bound in bound_names(part)]
            self.assertEqual(len(names), len(set(names)), name)

    def test_classes(self):
        for name, node in nodes(ast.ClassDef):
            self.assertLessEqual(len(node.bases), 1, (name, node.name))
            self.assertEqual((node.decorator_list, node.keywords), ([], []))
            self.assertEqual(len(node.body), len({getattr(row, "name", "") for row in node.body}))
            for row in node.body:
                self.assertIsInstance(row, (ast.FunctionDef, ast.Expr), (name, node.name))

    def test_methods_and_values_are_two_kinds_of_names(self):
        methods, given = methods_and_values()
        self.assertEqual(methods & given, set())
        self.assertEqual(given & PYTHONS_VALUES - FREE_VALUES, set())
        self.assertEqual(methods & PYTHONS_VALUES - OWN_METHODS - {"add", "discard"}, set())

    def test_methods_that_are_called_and_values_that_are_asked(self):
        methods, given = methods_and_values()
        every = nodes((ast.Call, ast.Attribute))
        called = {id(node.func) for _, node in every if isinstance(node, ast.Call)}
        for name, node in every:
            if isinstance(node, ast.Call):
                continue
            if id(node) in called:
                self.assertIn(node.attr, methods | OWN_METHODS | DEEP_METHODS, (name, node.lineno))
            elif isinstance(node.ctx, ast.Load):
                self.assertIn(node.attr, given, (name, node.lineno))

    def test_lists_and_dicts_of_a_files_top_hold_none_and_are_only_read(self):
        for name, tree in trees():
            tops = [row for row in tree.body if isinstance(row, ast.Assign)]
            kept = {row.targets[0].id for row in tops if isinstance(row.value, (ast.List, ast.Dict))}
            for row in tops:
                within = [part for part in ast.walk(row.value) if isinstance(part, (ast.List, ast.Dict))]
                self.assertLessEqual(len(within), 1, (name, row.lineno))
            for node in ast.walk(tree):
                if isinstance(node, ast.Attribute) and isinstance(node.value, ast.Name):
                    self.assertFalse(node.value.id in kept and node.attr not in ("get", "items"), (name, node.lineno))
                if isinstance(node, ast.Subscript) and isinstance(node.value, ast.Name) and node.value.id in kept:
                    self.assertIsInstance(node.ctx, ast.Load, (name, node.lineno))


class Names(unittest.TestCase):
    def test_imports_are_the_packages_own_from_where_they_are_defined(self):
        defined = {name[:-3]: [b for row in tree.body if not isinstance(row, ast.ImportFrom)
                               for part in [row] + getattr(row, "targets", []) for b in bound_names(part)]
                   for name, tree in trees()}
        for name, node in nodes(ast.ImportFrom):
            self.assertEqual(node.level, 0, name)
            package, _, module = node.module.partition(".")
            self.assertEqual(package, PACKAGE, name)
            for drawn in node.names:
                self.assertIn(drawn.name, defined[module], name)

    def test_no_two_files_draw_from_one_another(self):
        draws = {name[:-3]: [] for name in package_files()}
        for name, node in nodes(ast.ImportFrom):
            draws[name[:-3]].append(node.module.partition(".")[2])
        while draws:
            free = [name for name in draws if not [drawn for drawn in draws[name] if drawn in draws]]
            self.assertTrue(free, draws)
            for name in free:
                del draws[name]

    def test_names_are_plain(self):
        for name, node in nodes(ast.AST):
            for bound in bound_names(node):
                if bound in DEEP_METHODS:
                    continue
                self.assertRegex(bound, r"\A[A-Za-z][A-Za-z0-9_]*\Z", name)
                self.assertNotIn(bound, OUT_NAMES, name)

    def test_names_of_pythons_own(self):
        for name, node in nodes(ast.Name):
            if isinstance(node.ctx, ast.Load) and hasattr(builtins, node.id):
                self.assertIn(node.id, OWN_NAMES, (name, node.lineno))

    def test_attributes(self):
        for name, node in nodes(ast.Attribute):
            self.assertNotIn(node.attr, OUT_NAMES, (name, node.lineno))
            if node.attr.startswith("_"):
                self.assertIn(node.attr, DEEP_METHODS, (name, node.lineno))

    def test_nothing_within_a_def_is_called_like_an_import_a_class_or_pythons_own(self):
        for name, tree in trees():
            taken = {bound for row in tree.body if isinstance(row, (ast.ImportFrom, ast.ClassDef))
                     for part in [row] + getattr(row, "names", []) for bound in bound_names(part)}
            for outer in ast.walk(tree):
                if not isinstance(outer, (ast.FunctionDef, ast.Lambda)):
                    continue
                for node in ast.walk(outer):
                    for bound in bound_names(node) if node is not outer else []:
                        self.assertNotIn(bound, taken, (name, outer.lineno))
                        self.assertFalse(hasattr(builtins, bound), (name, outer.lineno, bound))


if __name__ == "__main__":
    unittest.main()
