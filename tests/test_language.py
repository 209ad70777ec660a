"""Those rules of the language of the package that can be read off its files."""

import ast
import builtins
import pathlib
import re
import unittest

FOLDER = pathlib.Path(__file__).resolve().parent.parent / "murmurline"
FILES = sorted(FOLDER.glob("*.py"))

BUILTINS = set(
    "len range enumerate zip min max sum abs sorted reversed int str bool list tuple dict set isinstance ord "
    "repr any all divmod iter next map super property staticmethod classmethod "
    "Exception ValueError TypeError KeyError IndexError LookupError ZeroDivisionError ArithmeticError "
    "OverflowError RuntimeError NotImplementedError AttributeError StopIteration NotImplemented".split()
)
# Not heapq and itertools, because of the order of tables and because they are iterated over and have a length.
LIBRARY = {"math"}
DUNDERS = set(
    "init eq repr str len enter exit call iter lt le gt ge ne add sub mul floordiv mod pow and or xor lshift rshift "
    "neg pos invert abs bool contains getitem setitem iadd isub imul".split()
)
BARRED = re.compile(
    r"\b(_wall|_WallAttr|typing|typing_extensions|enum|Enum|Flag|Generic|Protocol|ABC|ABCMeta|namedtuple|NamedTuple)\b"
    r"|dataclass|overload|contextmanager|\(type\)|Meta|metaclass="
)
NOT_ALLOWED = (
    ast.Global, ast.AsyncFunctionDef, ast.AsyncFor, ast.AsyncWith, ast.Await, ast.Import, ast.Div, ast.MatMult,
    ast.TryStar,
)


def is_module_level(statement):
    if isinstance(statement, ast.Expr):
        return isinstance(statement.value, ast.Constant) and isinstance(statement.value.value, str)
    return isinstance(statement, (ast.ImportFrom, ast.FunctionDef, ast.ClassDef, ast.Assign))


def defined_names(path):
    return {
        node.targets[0].id if isinstance(node, ast.Assign) else node.name
        for node in ast.parse(path.read_text()).body
        if isinstance(node, (ast.FunctionDef, ast.ClassDef, ast.Assign))
    }


def nodes(*kinds):
    """The parts of these kinds of all files, each one behind its place."""
    found = []
    for path in FILES:
        for node in ast.walk(ast.parse(path.read_text())):
            if isinstance(node, kinds):
                found.append((f"{path.name}:{getattr(node, 'lineno', '?')}", node))
    return found


def is_yield(node):
    return isinstance(node, (ast.Yield, ast.YieldFrom))


def called(node):
    return node.func.id if isinstance(node.func, ast.Name) else ""


def is_local(part):
    """Whether an assignment is one to local variables alone."""
    return isinstance(part, ast.Assign) and all(isinstance(target, ast.Name) for target in part.targets)


class Language(unittest.TestCase):
    def test_the_folder_contains_python_files_alone(self):
        found = [path.name for path in FOLDER.iterdir() if path.name != "__pycache__"]
        self.assertIn("__init__.py", found)
        for name in found:
            self.assertRegex(name, r"^[a-z0-9_]+\.py$")

    def test_characters_and_sizes(self):
        for path in FILES:
            with self.subTest(file=path.name):
                text = path.read_bytes().decode("ascii")
                self.assertRegex(text, r"\A[ -~\n]*\Z")
                self.assertLessEqual(len(text.splitlines()), 399)
                self.assertLessEqual(max(len(line) for line in text.splitlines()), 120)
                self.assertIsNone(BARRED.search(text))
        for place, node in nodes(ast.FunctionDef):
            self.assertLessEqual(node.end_lineno - node.lineno + 1, 40, place)

    def test_module_level(self):
        for path in FILES:
            for statement in ast.parse(path.read_text()).body:
                with self.subTest(file=path.name, line=statement.lineno):
                    self.assertTrue(is_module_level(statement))

    def test_imports_name_the_file_that_defines_the_name(self):
        for place, node in nodes(ast.ImportFrom):
            self.assertEqual(node.level, 0, place)
            self.assertTrue(all(alias.asname is None for alias in node.names), place)
            if node.module not in LIBRARY:
                package, name = node.module.split(".")
                self.assertEqual(package, "murmurline", place)
                self.assertLessEqual({alias.name for alias in node.names}, defined_names(FOLDER / f"{name}.py"), place)

    def test_what_is_not_allowed_at_all(self):
        self.assertEqual(nodes(*NOT_ALLOWED), [])
        for place, node in nodes(ast.Constant):
            self.assertNotIsInstance(node.value, (float, complex), place)
            if isinstance(node.value, str):
                self.assertNotIn("\x25", node.value, place)
                self.assertNotRegex(node.value, r"\A__.*__\Z|\._{1,2}\Z", place)

    def test_decorators_and_methods_with_two_underscores(self):
        for place, node in nodes(ast.FunctionDef):
            for decorator in node.decorator_list:
                self.assertRegex(ast.unparse(decorator), r"^(property|staticmethod|classmethod|\w+\.setter)$", place)
            if node.name.startswith("__"):
                self.assertIn(node.name.strip("_"), DUNDERS, place)

    def test_builtins(self):
        known = set(dir(builtins))
        for place, node in nodes(ast.Name):
            if node.id in known:
                self.assertIn(node.id, BUILTINS, place)
                self.assertIsInstance(node.ctx, ast.Load, place)
        for place, node in nodes(ast.arg):
            self.assertNotIn(node.arg, known, place)

    def test_what_looks_at_all_items_takes_a_list(self):
        # Because tables compare by their own ==.
        for place, node in nodes(ast.Call):
            if called(node) in ("any", "all", "min", "max", "sum", "sorted"):
                self.assertFalse(any(isinstance(part, ast.GeneratorExp) for part in node.args), place)

    def test_sorted_min_and_max_take_what_is_plainly_strings_or_numbers(self):
        # Tables have an order of their own, which is none to sort by.
        for place, node in nodes(ast.Call):
            if called(node) in ("sorted", "min", "max"):
                keys = [ast.unparse(word.value) for word in node.keywords if word.arg == "key"]
                listed = [part.elt if isinstance(part, ast.ListComp) else part for part in node.args]
                plain = [called(part) for part in listed if isinstance(part, ast.Call)]
                self.assertIn((keys + plain + [""])[0], ["str", "int", "len", "ord", "repr"], place)

    def test_names_of_classes_and_generators(self):
        generators = {node.name for _, node in nodes(ast.FunctionDef) if any(is_yield(part) for part in ast.walk(node))}
        for place, node in nodes(ast.ClassDef):
            self.assertRegex(node.name, "^[A-Za-z]", place)
        for place, node in nodes(ast.Name):
            self.assertFalse(node.id in generators and isinstance(node.ctx, ast.Store), place)
        names = [node.name for _, node in nodes(ast.FunctionDef)]
        for name in generators:
            self.assertEqual(names.count(name), 1, name)

    def test_operators_and_properties_do_not_add_in_place(self):
        # Lines have += of their own, so whatever an operator or a property runs must not use the sign. Tables are all
        # operators; of the other classes these methods themselves are looked at.
        for node in ast.walk(ast.parse((FOLDER / "tables.py").read_text())):
            self.assertNotIsInstance(node, ast.AugAssign)
        for place, node in nodes(ast.FunctionDef):
            read = any(ast.unparse(decorator) == "property" for decorator in node.decorator_list)
            if read or node.name.startswith("__") and node.name not in ("__init__", "__iadd__", "__setitem__"):
                for part in ast.walk(node):
                    self.assertNotIsInstance(part, (ast.AugAssign, ast.Delete, ast.Yield), place)
                    self.assertTrue(is_local(part) or not isinstance(part, ast.Assign), place)

    def test_generators_are_iterated_at_once(self):
        generators = {node.name for _, node in nodes(ast.FunctionDef) if any(is_yield(part) for part in ast.walk(node))}
        self.assertEqual(generators, {"rows_of", "walk", "orders", "subrows"})
        iterated = set()
        for _, node in nodes(ast.For, ast.comprehension):
            given = [node.iter] + (node.iter.args if isinstance(node.iter, ast.Call) else [])
            iterated |= {ast.unparse(part) for part in given if isinstance(part, ast.Call)}
        for place, node in nodes(ast.Call):
            name = node.func.attr if isinstance(node.func, ast.Attribute) else called(node)
            if name in generators:
                self.assertIn(ast.unparse(node), iterated, place)


if __name__ == "__main__":
    unittest.main()
