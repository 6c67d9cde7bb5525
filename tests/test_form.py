"""The package keeps to the rules of ../shared/LANGUAGE.md that can be seen from the outside."""

import ast
import builtins
import pathlib
import re
import unittest
import warnings

FOLDER = pathlib.Path(__file__).resolve().parent.parent / "hayherd"
FILES = sorted(FOLDER.glob("*.py"))

BUILTINS = set("""
len range enumerate zip min max sum abs sorted reversed int str bool list tuple dict set isinstance ord
repr any all divmod iter next super Exception ValueError TypeError KeyError IndexError LookupError
ZeroDivisionError ArithmeticError OverflowError RuntimeError NotImplementedError AttributeError
StopIteration NotImplemented
""".split())
BARRED_WORDS = set("""
type typing typing_extensions enum Enum IntEnum StrEnum Flag IntFlag Generic Protocol ABC ABCMeta namedtuple
NamedTuple TypedDict TYPE_CHECKING abstractmethod register mro elements open input version_info
""".split())
METHODS = set("""
append clear copy count endswith extend find get index insert isalnum isalpha isdigit islower isspace isupper items
join keys ljust lower lstrip partition pop remove replace reverse rfind rjust rpartition rsplit rstrip setdefault
split splitlines startswith strip update upper values zfill bit_length add discard
title capitalize swapcase casefold center expandtabs removeprefix removesuffix rindex isascii isdecimal isnumeric
istitle isidentifier isprintable translate
""".split())
# Generator expressions are barred in most places where a class has __eq__, so there are none at all.
BARRED_NODES = (
    ast.Import, ast.Global, ast.AsyncFunctionDef, ast.AsyncFor, ast.AsyncWith, ast.Await, ast.Div, ast.MatMult,
    ast.GeneratorExp,
)
FILE_NAMES = """
__init__ errors rows ends turned never kept ways fed hay joined lots fold texts desk
""".split()


def bound_names(tree):
    for node in ast.walk(tree):
        if isinstance(node, (ast.FunctionDef, ast.ClassDef)):
            yield node.name
        elif isinstance(node, ast.arg):
            yield node.arg
        elif isinstance(node, ast.Name) and not isinstance(node.ctx, ast.Load):
            yield node.id
        elif isinstance(node, ast.alias):
            yield node.asname or node.name


def top_names(part):
    """The names that a statement at module level binds."""
    if isinstance(part, ast.ImportFrom):
        return [alias.asname or alias.name for alias in part.names]
    if isinstance(part, ast.Assign):
        return [target.id for target in part.targets]
    return [part.name] if isinstance(part, (ast.FunctionDef, ast.ClassDef)) else []


def each_file():
    for path in FILES:
        text = path.read_bytes().decode("ascii")
        yield path, text, ast.parse(text)


class Form(unittest.TestCase):
    def test_the_folder_has_its_files_alone(self):
        found = {path.name for path in FOLDER.iterdir()} - {"__pycache__"}
        self.assertEqual(found, {path.name for path in FILES})
        self.assertEqual({name + ".py" for name in FILE_NAMES}, found)

    def test_characters_and_sizes(self):
        for path, text, tree in each_file():
            self.assertIsNone(re.search(r"[^\n -~]", text))
            self.assertTrue(text.endswith("\n"))
            lines = text.splitlines()
            self.assertLessEqual(len(lines), 400)
            self.assertLessEqual(max(len(line) for line in lines), 120)
            for node in ast.walk(tree):
                if isinstance(node, ast.FunctionDef):
                    self.assertLessEqual(node.end_lineno - node.lineno + 1, 40, node.name)

    def test_no_warning(self):
        for path, text, tree in each_file():
            with warnings.catch_warnings():
                warnings.simplefilter("error")
                compile(text, path.name, "exec")

    def test_barred_words_and_nodes(self):
        for path, text, tree in each_file():
            self.assertEqual(set(re.findall(r"\w+", text)) & BARRED_WORDS, set())
            for node in ast.walk(tree):
                self.assertNotIsInstance(node, BARRED_NODES)
                if isinstance(node, ast.Constant):
                    self.assertNotIsInstance(node.value, (float, complex))
                    self.assertFalse(isinstance(node.value, str) and "%" in node.value)
                if isinstance(node, ast.Compare) and any(isinstance(op, (ast.Is, ast.IsNot)) for op in node.ops):
                    self.assertIn(getattr(node.comparators[0], "value", ""), (None, True, False))

    def test_imports_name_files_of_the_package(self):
        for path, text, tree in each_file():
            for node in ast.walk(tree):
                if isinstance(node, ast.ImportFrom):
                    self.assertEqual(node.level, 0)
                    package, name = node.module.split(".")
                    self.assertEqual(package, "hayherd")
                    defined = ast.parse((FOLDER / (name + ".py")).read_text()).body
                    for alias in node.names:
                        self.assertIn(alias.name, [getattr(part, "name", None) for part in defined])

    def test_no_two_files_import_from_each_other(self):
        imported = {
            path.stem: {node.module.split(".")[1] for node in ast.walk(tree) if isinstance(node, ast.ImportFrom)}
            for path, text, tree in each_file()
        }
        while imported:
            free = [name for name in imported if not imported[name]]
            self.assertNotEqual(free, [], imported)
            imported = {name: imported[name] - set(free) for name in imported if name not in free}

    def test_each_name_is_bound_once_and_hides_no_import(self):
        for path, text, tree in each_file():
            tops = [name for part in tree.body for name in top_names(part)]
            self.assertEqual(len(tops), len(set(tops)), tops)
            taken = {alias.name for part in tree.body if isinstance(part, ast.ImportFrom) for alias in part.names}
            rest = [part for part in tree.body if not isinstance(part, ast.ImportFrom)]
            inner = set(bound_names(ast.Module(rest, [])))
            self.assertEqual(inner & taken, set(), path.name)
            read = {node.id for node in ast.walk(tree) if isinstance(node, ast.Name)}
            self.assertLessEqual(taken, read, path.name)

    def test_methods_of_builtin_values(self):
        own = set()
        for path, text, tree in each_file():
            own |= {node.name for node in ast.walk(tree) if isinstance(node, ast.FunctionDef)}
        for path, text, tree in each_file():
            for node in ast.walk(tree):
                if isinstance(node, ast.Call) and isinstance(node.func, ast.Attribute):
                    self.assertIn(node.func.attr, METHODS | own)

    def test_refusals_are_made_where_they_are_raised(self):
        own = {node.name for path, text, tree in each_file() for node in tree.body if isinstance(node, ast.ClassDef)}
        for path, text, tree in each_file():
            for node in ast.walk(tree):
                if isinstance(node, ast.Raise) and node.exc is not None:
                    self.assertIsInstance(node.exc, ast.Call)
                    self.assertIn(node.exc.func.id, own)
                if isinstance(node, ast.ExceptHandler):
                    caught = node.type.elts if isinstance(node.type, ast.Tuple) else [node.type]
                    self.assertLessEqual({name.id for name in caught}, own)

    def test_no_name_is_a_method_and_an_attribute(self):
        methods, fields = set(), set()
        for path, text, tree in each_file():
            for node in ast.walk(tree):
                if isinstance(node, ast.ClassDef):
                    methods |= {part.name for part in node.body if isinstance(part, ast.FunctionDef)}
                if isinstance(node, ast.Attribute) and isinstance(node.ctx, ast.Store):
                    fields.add(node.attr)
        self.assertEqual(methods & fields, set())
        self.assertEqual((methods | fields) & METHODS, set())
        read = {
            node.attr for path, text, tree in each_file() for node in ast.walk(tree)
            if isinstance(node, ast.Attribute) and isinstance(node.ctx, ast.Load)
        }
        self.assertLessEqual(read, methods | fields | METHODS)

    def test_names(self):
        for path, text, tree in each_file():
            bound = set(bound_names(tree))
            for name in bound - {"__init__", "__eq__", "__len__", "__repr__", "__str__"}:
                self.assertFalse(name.startswith("_"), name)
                self.assertNotIn(name, dir(builtins))
            for node in ast.walk(tree):
                if isinstance(node, ast.Name) and node.id not in bound:
                    self.assertIn(node.id, BUILTINS)


if __name__ == "__main__":
    unittest.main()
