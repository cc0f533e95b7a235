"""The rules of the language that a reading of the package's files can tell."""

import ast
import builtins
import re
import unittest
from pathlib import Path

PACKAGE = Path(__file__).resolve().parent.parent / "sumtold"
BUILTINS = set(
    "len range enumerate zip min max sum abs sorted reversed int str bool list tuple dict set frozenset isinstance ord"
    " repr any all divmod iter next super Exception ValueError TypeError KeyError IndexError LookupError"
    " ZeroDivisionError ArithmeticError OverflowError RuntimeError NotImplementedError StopIteration".split()
)
METHODS = set(
    "append clear copy count endswith extend find get index insert isalnum isalpha isdigit islower isspace isupper items"
    " join keys ljust lower lstrip partition pop remove replace reverse rfind rjust rpartition rsplit rstrip setdefault"
    " split splitlines startswith strip update upper values zfill bit_length add discard sort isascii isdecimal"
    " removeprefix removesuffix __init__".split()
)
BARRED_WORDS = (
    "type typing typing_extensions enum Enum IntEnum StrEnum Flag IntFlag Generic Protocol ABC ABCMeta namedtuple"
    " NamedTuple TypedDict TYPE_CHECKING abstractmethod".split()
)
BARRED_PIECES = ("dataclass", "overload", "contextmanager")
BARRED_NODES = (
    ast.Global, ast.AsyncFunctionDef, ast.AsyncFor, ast.AsyncWith, ast.Await, ast.Import, ast.Div, ast.MatMult,
)


def files():
    return sorted(PACKAGE.glob("*.py"))


def tree(file):
    return ast.parse(file.read_text())


def nodes(kind):
    return [(file.name, node) for file in files() for node in ast.walk(tree(file)) if isinstance(node, kind)]


def bound_names(top):
    names = []
    for node in ast.walk(top):
        if isinstance(node, ast.arg):
            names.append(node.arg)
        elif isinstance(node, ast.Name) and isinstance(node.ctx, ast.Store):
            names.append(node.id)
        elif isinstance(node, (ast.FunctionDef, ast.ClassDef)) and node is not top:
            names.append(node.name)
    return names


class FileTest(unittest.TestCase):
    def test_folder_has_plain_files_alone(self):
        for file in PACKAGE.iterdir():
            if file.name != "__pycache__":
                self.assertRegex(file.name, r"\A(__init__|[a-z][a-z0-9_]*)\.py\Z")

    def test_lines_and_signs(self):
        for file in files():
            text = file.read_text()
            self.assertRegex(text, r"\A[ -~\n]*\Z", file.name)
            self.assertLessEqual(len(text.splitlines()), 400, file.name)
            self.assertLessEqual(max(len(line) for line in text.splitlines()), 120, file.name)

    def test_barred_words(self):
        for file in files():
            words = re.findall(r"[A-Za-z0-9_]+", file.read_text())
            for word in words:
                self.assertNotIn(word, BARRED_WORDS, file.name)
                self.assertFalse([piece for piece in BARRED_PIECES if piece in word], file.name)


class ModuleTest(unittest.TestCase):
    def test_module_level(self):
        for file in files():
            for node in tree(file).body[1:]:
                self.assertIsInstance(node, (ast.ImportFrom, ast.FunctionDef, ast.ClassDef, ast.Assign), file.name)

    def test_names_are_bound_once(self):
        for file in files():
            names = []
            for node in tree(file).body:
                if isinstance(node, ast.ImportFrom):
                    names += [alias.asname or alias.name for alias in node.names]
                elif isinstance(node, (ast.FunctionDef, ast.ClassDef)):
                    names.append(node.name)
                elif isinstance(node, ast.Assign):
                    names += [target.id for target in node.targets]
            self.assertEqual(len(names), len(set(names)), file.name)

    def test_imports(self):
        for name, node in nodes(ast.ImportFrom):
            self.assertEqual(node.level, 0, name)
            home = PACKAGE.parent / (node.module.replace(".", "/") + ".py")
            defined = [top.name for top in tree(home).body if isinstance(top, (ast.FunctionDef, ast.ClassDef))]
            assigned = [top.targets[0].id for top in tree(home).body if isinstance(top, ast.Assign)]
            for alias in node.names:
                self.assertIn(alias.name, defined + assigned, name)


    def test_no_two_files_import_from_each_other(self):
        ahead = {file.stem: set() for file in files()}
        for name, node in nodes(ast.ImportFrom):
            ahead[name[:-3]].add(node.module.split(".")[1])
        done = set()
        while len(done) < len(ahead):
            ready = {stem for stem in ahead if stem not in done and ahead[stem] <= done}
            self.assertTrue(ready, set(ahead) - done)
            done |= ready


class ClassTest(unittest.TestCase):
    def classes(self):
        return [node for name, node in nodes(ast.ClassDef)]

    def methods(self):
        return {row.name for node in self.classes() for row in node.body if isinstance(row, ast.FunctionDef)}

    def attributes(self, kind):
        return {node.attr for name, node in nodes(ast.Attribute) if isinstance(node.ctx, kind)}

    def test_no_name_is_a_method_and_an_attribute(self):
        self.assertEqual(self.methods() & self.attributes(ast.Store), set())

    def test_attributes_that_are_read_are_assigned_by_a_class(self):
        assigned = {
            node.attr for top in self.classes() for node in ast.walk(top)
            if isinstance(node, ast.Attribute) and isinstance(node.ctx, ast.Store)
        }
        self.assertEqual(self.attributes(ast.Load) - assigned - self.methods() - METHODS, set())

    def test_names_that_builtin_values_have_are_not_used(self):
        barred = {name for kind in (str, int, list, dict, set, bytes) for name in dir(kind) if name[0] != "_"}
        self.assertEqual((self.methods() | self.attributes(ast.Store)) & barred, set())


class RowTest(unittest.TestCase):
    def test_functions_are_short(self):
        for name, node in nodes(ast.FunctionDef):
            self.assertLessEqual(node.end_lineno - node.lineno + 1, 40, (name, node.name))

    def test_barred_rows(self):
        self.assertEqual([(name, node) for name, node in nodes(BARRED_NODES)], [])

    def test_names(self):
        for file in files():
            top = tree(file)
            imported = [alias.name for node in top.body if isinstance(node, ast.ImportFrom) for alias in node.names]
            classes = [node.name for node in top.body if isinstance(node, ast.ClassDef)]
            for name in bound_names(top):
                self.assertRegex(name, r"\A([A-Za-z][A-Za-z0-9_]*|__[a-z]+__)\Z", file.name)
            for function in ast.walk(top):
                if isinstance(function, ast.FunctionDef):
                    for name in bound_names(function):
                        self.assertFalse(hasattr(builtins, name), (file.name, name))
                        self.assertNotIn(name, imported + classes, file.name)

    def test_builtins(self):
        for name, node in nodes(ast.Name):
            if hasattr(builtins, node.id):
                self.assertIn(node.id, BUILTINS, name)

    def test_methods(self):
        own = {node.name for name, top in nodes(ast.ClassDef) for node in top.body if isinstance(node, ast.FunctionDef)}
        for name, node in nodes(ast.Call):
            if isinstance(node.func, ast.Attribute):
                self.assertIn(node.func.attr, METHODS | own, name)

    def test_is(self):
        for name, node in nodes(ast.Compare):
            for sign, right in zip(node.ops, node.comparators):
                if isinstance(sign, (ast.Is, ast.IsNot)):
                    self.assertIsInstance(right, ast.Constant, name)
                    self.assertIn(right.value, (None, True, False), name)

    def test_powers(self):
        for name, node in nodes(ast.BinOp):
            if isinstance(node.op, ast.Pow):
                self.assertIsInstance(node.right, ast.Constant, name)
                self.assertIn(node.right.value, range(65), name)

    def test_literals(self):
        for name, node in nodes(ast.Constant):
            self.assertIsInstance(node.value, (str, int, bytes, type(None)), name)
            if isinstance(node.value, str):
                self.assertNotIn("%", node.value, name)

    def test_handlers(self):
        for name, node in nodes(ast.ExceptHandler):
            self.assertIsNotNone(node.type, name)
            self.assertNotIn(ast.unparse(node.type), ("Exception", "TypeError", "()"), name)
