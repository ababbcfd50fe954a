"""Those rules of the language that can be read off the files of the package."""

import ast
import builtins
import pathlib
import re
import unittest

PACKAGE = pathlib.Path(__file__).resolve().parent.parent / "roamlook"
BARRED_WORDS = (
    "type", "typing", "typing_extensions", "enum", "Enum", "IntEnum", "StrEnum", "Flag", "IntFlag", "Generic",
    "Protocol", "ABC", "ABCMeta", "namedtuple", "NamedTuple", "TypedDict", "TYPE_CHECKING", "abstractmethod",
)
LET_BUILTINS = (
    "len", "range", "enumerate", "zip", "min", "max", "sum", "abs", "sorted", "reversed", "int", "str", "bool",
    "list", "tuple", "dict", "set", "isinstance", "ord", "repr", "any", "all", "divmod", "iter", "next", "super",
)
LET_METHODS = (
    "append", "clear", "copy", "count", "endswith", "extend", "find", "get", "index", "insert", "isalnum", "isalpha",
    "isdigit", "islower", "isspace", "isupper", "items", "join", "keys", "ljust", "lower", "lstrip", "partition",
    "pop", "remove", "replace", "reverse", "rfind", "rjust", "rpartition", "rsplit", "rstrip", "setdefault", "split",
    "splitlines", "startswith", "strip", "update", "upper", "values", "zfill", "isascii", "add", "discard",
)
BARRED_ATTRIBUTES = (
    "items", "keys", "values", "pop", "update", "append", "clear", "extend", "insert", "remove", "reverse",
    "setdefault", "sort", "args", "encode", "decode", "hex", "fromhex", "format", "mro", "register", "elements",
    "open", "input",
)
DOUBLE_METHODS = ("__init__", "__eq__", "__repr__", "__str__", "__len__")
AT_ONCE = ("range", "zip", "enumerate", "reversed")
OVER_LISTS = ("any", "all", "min", "max", "sum", "sorted")


def files():
    return sorted(path for path in PACKAGE.rglob("*") if "__pycache__" not in path.parts)


def nodes(kinds):
    for path in files():
        for node in ast.walk(ast.parse(path.read_text())):
            if isinstance(node, kinds):
                yield path.name, node


def classes():
    return [node for name, node in nodes(ast.ClassDef)]


def own_attributes():
    return {
        node.attr for name, node in nodes(ast.Attribute)
        if isinstance(node.ctx, ast.Store) and isinstance(node.value, ast.Name)
    }


def top_names(path):
    """The names that a file itself binds at module level, but for imports."""
    names = set()
    for row in ast.parse(path.read_text()).body:
        if isinstance(row, (ast.FunctionDef, ast.ClassDef)):
            names.add(row.name)
        if isinstance(row, ast.Assign):
            names.update(target.id for target in row.targets)
    return names


METHOD_NAMES = {row.name for node in classes() for row in node.body if isinstance(row, ast.FunctionDef)}


class Files(unittest.TestCase):
    def test_only_plain_files(self):
        for path in files():
            self.assertRegex(path.name, r"\A([a-z][a-z0-9_]*|__init__)\.py\Z")
            self.assertEqual(path.parent, PACKAGE)

    def test_signs_and_sizes(self):
        for path in files():
            text = path.read_text()
            self.assertRegex(text, r"\A[\n -~]*\Z", path.name)
            self.assertNotIn("%", text, path.name)
            self.assertLessEqual(len(text.splitlines()), 400, path.name)
            self.assertLessEqual(max(len(line) for line in text.splitlines()), 120, path.name)

    def test_barred_words(self):
        for path in files():
            for word in BARRED_WORDS:
                self.assertIsNone(re.search(rf"\b{word}\b", path.read_text()), (path.name, word))

    def test_functions_are_short(self):
        for name, node in nodes(ast.FunctionDef):
            self.assertLessEqual(node.end_lineno - node.lineno + 1, 40, (name, node.name))


class Rules(unittest.TestCase):
    def test_imports_are_of_the_package_alone(self):
        for name, node in nodes(ast.Import):
            self.fail(name)
        for name, node in nodes(ast.ImportFrom):
            self.assertEqual(node.level, 0)
            self.assertTrue(node.module.startswith("roamlook."), (name, node.module))
            self.assertNotIn("*", [alias.name for alias in node.names])

    def test_no_barred_parts(self):
        for name, node in nodes((ast.Global, ast.Div, ast.AsyncFunctionDef, ast.Await)):
            self.fail((name, node))

    def test_lists_in_place_of_generators(self):
        for name, node in nodes(ast.Call):
            if isinstance(node.func, ast.Name) and node.func.id in OVER_LISTS:
                self.assertFalse([arg for arg in node.args if isinstance(arg, ast.GeneratorExp)], (name, node.lineno))

    def test_no_floats(self):
        for name, node in nodes(ast.Constant):
            self.assertNotIsInstance(node.value, float, name)

    def test_is_stands_beside_none_alone(self):
        for name, node in nodes(ast.Compare):
            for sign, side in zip(node.ops, node.comparators):
                if isinstance(sign, (ast.Is, ast.IsNot)):
                    self.assertIn(getattr(side, "value", 0), (None, True, False), (name, node.lineno))

    def test_builtins_called(self):
        for name, node in nodes(ast.Call):
            if isinstance(node.func, ast.Name) and node.func.id in dir(builtins):
                self.assertIn(node.func.id, LET_BUILTINS, (name, node.lineno))

    def test_iterated_at_once(self):
        for name, node in nodes(ast.Assign):
            if isinstance(node.value, ast.Call) and isinstance(node.value.func, ast.Name):
                self.assertNotIn(node.value.func.id, AT_ONCE, (name, node.lineno))

    def test_plain_names(self):
        for name, node in nodes((ast.FunctionDef, ast.ClassDef)):
            self.assertTrue(node.name in DOUBLE_METHODS or not node.name.startswith("_"), (name, node.name))
        for name, node in nodes(ast.Name):
            self.assertFalse(node.id.startswith("_"), (name, node.lineno))

    def test_no_name_of_a_builtin_is_bound(self):
        for name, node in nodes(ast.Name):
            if isinstance(node.ctx, ast.Store):
                self.assertNotIn(node.id, dir(builtins), (name, node.lineno))
        for name, node in nodes(ast.arg):
            self.assertNotIn(node.arg, dir(builtins), (name, node.lineno))

    def test_no_local_has_the_name_of_a_class_or_an_import(self):
        for path in files():
            tree = ast.parse(path.read_text())
            taken = {alias.name for node in ast.walk(tree) if isinstance(node, ast.ImportFrom) for alias in node.names}
            taken |= {node.name for node in ast.walk(tree) if isinstance(node, ast.ClassDef)}
            bound = {node.id for node in ast.walk(tree) if isinstance(node, ast.Name) and isinstance(node.ctx, ast.Store)}
            bound |= {node.arg for node in ast.walk(tree) if isinstance(node, ast.arg)}
            bound |= {node.name for node in ast.walk(tree) if isinstance(node, ast.FunctionDef)} - METHOD_NAMES
            self.assertEqual(bound & taken, set(), path.name)

    def test_what_is_imported_is_defined_there_and_used(self):
        for path in files():
            tree = ast.parse(path.read_text())
            used = {node.id for node in ast.walk(tree) if isinstance(node, ast.Name)}
            for node in ast.walk(tree):
                if isinstance(node, ast.ImportFrom):
                    there = top_names(PACKAGE / (node.module.split(".")[1] + ".py"))
                    for alias in node.names:
                        self.assertIn(alias.name, there, path.name)
                        self.assertIn(alias.name, used, path.name)

    def test_no_two_files_import_from_each_other(self):
        leads = {path.stem: set() for path in files()}
        for name, node in nodes(ast.ImportFrom):
            leads[name[:-3]].add(node.module.split(".")[1])
        for start in leads:
            reached, edge = set(), set(leads[start])
            while edge:
                reached |= edge
                edge = {end for one in edge for end in leads[one]} - reached
            self.assertNotIn(start, reached)

    def test_methods_that_are_called(self):
        for name, node in nodes(ast.Call):
            if isinstance(node.func, ast.Attribute) and node.func.attr not in ("__init__", "__name__"):
                self.assertIn(node.func.attr, set(LET_METHODS) | METHOD_NAMES, (name, node.lineno))

    def test_attributes_that_are_read_are_assigned(self):
        for path in files():
            tree = ast.parse(path.read_text())
            called = {id(node.func) for node in ast.walk(tree) if isinstance(node, ast.Call)}
            for node in ast.walk(tree):
                if isinstance(node, ast.Attribute) and isinstance(node.ctx, ast.Load) and id(node) not in called:
                    self.assertIn(node.attr, own_attributes(), (path.name, node.lineno))

    def test_barred_attributes(self):
        self.assertEqual(own_attributes() & set(BARRED_ATTRIBUTES), set())

    def test_bare_stars_stand_in_methods_of_own_names_alone(self):
        for name, node in nodes(ast.FunctionDef):
            if node.args.kwonlyargs:
                self.assertNotIn(node.name, LET_METHODS, name)

    def test_sets_are_not_iterated(self):
        for name, node in nodes((ast.For, ast.comprehension)):
            over = node.iter
            self.assertNotIsInstance(over, (ast.Set, ast.SetComp), name)
            if isinstance(over, ast.Call) and isinstance(over.func, ast.Name):
                self.assertNotEqual(over.func.id, "set", name)

    def test_raised_by_the_name_of_an_error(self):
        for name, node in nodes(ast.Raise):
            if node.exc is not None:
                self.assertIsInstance(node.exc, ast.Call, (name, node.lineno))
                self.assertIsInstance(node.exc.func, ast.Name, (name, node.lineno))

    def test_only_own_errors_are_caught(self):
        caught = set()
        for name, node in nodes(ast.ExceptHandler):
            kinds = node.type.elts if isinstance(node.type, ast.Tuple) else [node.type]
            caught |= {kind.id for kind in kinds}
        self.assertLessEqual(caught, top_names(PACKAGE / "errors.py"))

    def test_double_methods_assign_nothing(self):
        for name, node in nodes(ast.FunctionDef):
            if node.name in ("__eq__", "__repr__", "__str__", "__len__"):
                rows = [row for row in ast.walk(node) if isinstance(row, (ast.Assign, ast.AugAssign, ast.Delete))]
                self.assertEqual(rows, [], (name, node.lineno))

    def test_no_name_is_a_method_and_an_attribute(self):
        methods = {row.name for node in classes() for row in node.body if isinstance(row, ast.FunctionDef)}
        self.assertEqual(methods & own_attributes(), set())


if __name__ == "__main__":
    unittest.main()
