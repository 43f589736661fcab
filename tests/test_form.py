"""The form of the package's code: those rules of the language part that a plain look can tell."""

import ast
import builtins
import pathlib
import re
import unittest

PACKAGE = pathlib.Path(__file__).resolve().parent.parent / "duskround"
FILES = sorted(PACKAGE.glob("*.py"))
OWN_NAMES = set(
    "len range enumerate zip min max sum abs sorted reversed int str bool bytes list tuple dict set isinstance ord "
    "repr any all divmod Exception ValueError TypeError KeyError IndexError LookupError ZeroDivisionError "
    "ArithmeticError OverflowError RuntimeError NotImplementedError AttributeError StopIteration".split()
)
BARRED_WORDS = (
    "type typing typing_extensions enum Enum IntEnum StrEnum Flag IntFlag Generic Protocol ABC ABCMeta namedtuple "
    "NamedTuple TypedDict TYPE_CHECKING abstractmethod"
).split()
METHODS = set(
    "append clear copy count endswith extend find get index insert isalnum isalpha isdigit islower isspace isupper "
    "items join keys ljust lower lstrip partition pop remove replace reverse rfind rjust rpartition rsplit rstrip "
    "setdefault split splitlines startswith strip update upper values zfill bit_length".split()
)
BARRED_KINDS = (
    ast.With, ast.Match, ast.Global, ast.Nonlocal, ast.Yield, ast.YieldFrom, ast.GeneratorExp, ast.NamedExpr,
    ast.AsyncFunctionDef, ast.Await, ast.Div, ast.Import, ast.Set, ast.SetComp, ast.Lambda, ast.Pow, ast.AnnAssign,
)


def bound_names(tree):
    """Every name that a file gives a meaning."""
    names = set()
    for node in ast.walk(tree):
        if isinstance(node, (ast.FunctionDef, ast.ClassDef)):
            names.add(node.name)
        elif isinstance(node, ast.arg):
            names.add(node.arg)
        elif isinstance(node, ast.Name) and isinstance(node.ctx, ast.Store):
            names.add(node.id)
        elif isinstance(node, ast.ImportFrom):
            names.update(alias.asname or alias.name for alias in node.names)
        elif isinstance(node, ast.ExceptHandler) and node.name:
            names.add(node.name)
    return names


def own_attributes(trees):
    """The methods that the package's classes have, and the values that they give their objects."""
    methods = set()
    values = set()
    for tree in trees:
        for node in ast.walk(tree):
            if isinstance(node, ast.ClassDef):
                methods.update(row.name for row in node.body if isinstance(row, ast.FunctionDef))
            elif isinstance(node, ast.Attribute) and isinstance(node.ctx, ast.Store):
                values.add(node.attr)
    return methods, values


class TestForm(unittest.TestCase):
    def test_nothing_but_plain_files_lies_in_the_package(self):
        for path in PACKAGE.iterdir():
            if path.name != "__pycache__":
                self.assertRegex(path.name, r"^[a-z0-9_]+\.py$")
        self.assertIn("__init__.py", [path.name for path in FILES])

    def test_signs_and_sizes(self):
        for path in FILES:
            text = path.read_bytes().decode("ascii")
            rows = text.split("\n")
            self.assertLessEqual(len(rows), 400, path)
            for row in rows:
                self.assertRegex(row, r"^[ -~]{0,120}$", path)
            for word in BARRED_WORDS:
                self.assertIsNone(re.search(rf"\b{word}\b", text), (path, word))

    def test_functions_are_short_and_bare(self):
        for path in FILES:
            for node in ast.walk(ast.parse(path.read_text())):
                if isinstance(node, ast.FunctionDef):
                    self.assertLessEqual(node.end_lineno - node.lineno + 1, 40, (path, node.name))
                    self.assertEqual(node.decorator_list, [])
                    self.assertIsNone(node.args.vararg)
                    self.assertIsNone(node.args.kwarg)

    def test_no_barred_kind_of_code(self):
        for path in FILES:
            for node in ast.walk(ast.parse(path.read_text())):
                self.assertNotIsInstance(node, BARRED_KINDS, (path, getattr(node, "lineno", 0)))
                if isinstance(node, ast.Constant):
                    self.assertNotIsInstance(node.value, (float, complex), path)

    def test_imports_are_the_packages_own(self):
        for path in FILES:
            for node in ast.walk(ast.parse(path.read_text())):
                if isinstance(node, ast.ImportFrom):
                    self.assertEqual(node.level, 0, path)
                    self.assertRegex(node.module, r"^duskround\.[a-z_]+$", path)

    def test_names(self):
        for path in FILES:
            tree = ast.parse(path.read_text())
            bound = bound_names(tree)
            for name in bound:
                self.assertNotIn(name, OWN_NAMES | set(dir(builtins)), path)
                self.assertRegex(name, r"^([A-Za-z][A-Za-z0-9_]*|__(init|eq|repr|str|len)__)$", path)
            for node in ast.walk(tree):
                if isinstance(node, ast.Name) and isinstance(node.ctx, ast.Load):
                    self.assertIn(node.id, bound | OWN_NAMES, path)

    def test_no_local_is_called_like_a_class_or_an_import(self):
        for path in FILES:
            tree = ast.parse(path.read_text())
            taken = {row.name for row in tree.body if isinstance(row, ast.ClassDef)}
            for row in tree.body:
                if isinstance(row, ast.ImportFrom):
                    taken.update(alias.name for alias in row.names)
            for node in ast.walk(tree):
                if isinstance(node, ast.arg):
                    self.assertNotIn(node.arg, taken, path)
                elif isinstance(node, ast.Name) and isinstance(node.ctx, ast.Store):
                    self.assertNotIn(node.id, taken, path)

    def test_each_name_is_bound_once_at_the_top(self):
        for path in FILES:
            names = []
            for row in ast.parse(path.read_text()).body:
                if isinstance(row, ast.ImportFrom):
                    names += [alias.name for alias in row.names]
                elif isinstance(row, ast.Assign):
                    names += [target.id for target in row.targets]
                elif isinstance(row, (ast.FunctionDef, ast.ClassDef)):
                    names.append(row.name)
                else:
                    # All that is left is the docstring.
                    self.assertIsInstance(row, ast.Expr, path)
                    self.assertIsInstance(row.value, ast.Constant, path)
            self.assertEqual(len(names), len(set(names)), path)

    def test_texts(self):
        for path in FILES:
            self.assertIsNone(re.search(r"\\[^n]", path.read_text()), path)
            for node in ast.walk(ast.parse(path.read_text())):
                if isinstance(node, ast.Constant) and isinstance(node.value, str):
                    self.assertNotIn("%", node.value, path)
                elif isinstance(node, ast.FormattedValue):
                    self.assertIsNone(node.format_spec, path)

    def test_errors_are_the_packages_own(self):
        own = {row.name for row in ast.parse((PACKAGE / "errors.py").read_text()).body if isinstance(row, ast.ClassDef)}
        for path in FILES:
            for node in ast.walk(ast.parse(path.read_text())):
                if isinstance(node, ast.Raise):
                    self.assertIn(node.exc.func.id, own, path)
                elif isinstance(node, ast.ExceptHandler):
                    self.assertIn(node.type.id, own, path)

    def test_methods_and_values(self):
        trees = [ast.parse(path.read_text()) for path in FILES]
        methods, values = own_attributes(trees)
        self.assertEqual(methods & values, set())
        for name in values:
            for kind in (str, int, list, dict, set, bytes):
                self.assertFalse(hasattr(kind, name), name)
        for path, tree in zip(FILES, trees):
            for node in ast.walk(tree):
                if isinstance(node, ast.Attribute):
                    self.assertIn(node.attr, METHODS | methods | values, path)

    def test_is_stands_beside_none_true_and_false(self):
        for path in FILES:
            for node in ast.walk(ast.parse(path.read_text())):
                if isinstance(node, ast.Compare) and isinstance(node.ops[0], (ast.Is, ast.IsNot)):
                    beside = node.comparators[0]
                    self.assertIsInstance(beside, ast.Constant, path)
                    self.assertIn(beside.value, (None, True, False), path)

    def test_no_two_files_draw_from_one_another(self):
        drawn = {}
        for path in FILES:
            rows = [node for node in ast.parse(path.read_text()).body if isinstance(node, ast.ImportFrom)]
            drawn[path.stem] = {row.module.split(".")[1] for row in rows}
        while drawn:
            free = [name for name in drawn if not drawn[name] & set(drawn)]
            self.assertNotEqual(free, [], drawn)
            for name in free:
                del drawn[name]


if __name__ == "__main__":
    unittest.main()
