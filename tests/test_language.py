"""The package keeps to those rules of LANGUAGE.md that can be told from the code at a glance."""

import ast
import builtins
import pathlib
import re
import unittest

PACKAGE = pathlib.Path(__file__).resolve().parent.parent / "letterhouse"
FILES = sorted(path for path in PACKAGE.rglob("*") if path.is_file() and "__pycache__" not in path.parts)
LIBRARY = {"heapq", "math", "itertools", "collections"}
BUILTINS = set("""len range enumerate zip min max sum abs sorted reversed int str bool list tuple dict set frozenset
    isinstance ord repr any all divmod pow getattr hasattr setattr iter next map super property staticmethod classmethod
    Exception ValueError TypeError KeyError IndexError LookupError ZeroDivisionError ArithmeticError OverflowError
    RuntimeError NotImplementedError AttributeError StopIteration NotImplemented bytes object""".split())
METHODS = set("""append clear copy count endswith extend find get index insert isalnum isalpha isdigit islower isspace
    isupper items join keys ljust lower lstrip partition pop remove replace reverse rfind rjust rpartition rsplit rstrip
    setdefault split splitlines startswith strip update upper values zfill bit_length title capitalize swapcase casefold
    center expandtabs removeprefix removesuffix rindex isascii isdecimal isnumeric istitle isidentifier isprintable
    translate maketrans add discard sort format __init__""".split())
BARRED_NODES = (ast.Global, ast.AsyncFunctionDef, ast.AsyncFor, ast.AsyncWith, ast.Await, ast.Div, ast.MatMult,
                ast.Import, ast.TryStar)
BARRED_WORDS = re.compile(r"\b(typing|enum|Enum|namedtuple|NamedTuple|dataclass|Protocol|Generic|ABC|_wall|_WallAttr)\b")
BARRED_NAMES = {"register", "mro", "elements", "open", "input", "law", "version_info", "with_traceback", "add_note"}


def trees():
    return [(path, ast.parse(path.read_text())) for path in FILES if path.name != "__main__.py"]


def nodes(kind):
    return [(path, node) for path, tree in trees() for node in ast.walk(tree) if isinstance(node, kind)]


class Language(unittest.TestCase):
    def test_files_are_plain_python(self):
        self.assertTrue((PACKAGE / "__init__.py") in FILES)
        for path in FILES:
            self.assertRegex(path.name, r"\A[a-z0-9_]+\.py\Z")

    def test_lines_and_characters(self):
        for path in FILES:
            text = path.read_bytes().decode("ascii")
            self.assertRegex(text, r"\A[ -~\n]*\Z", path)
            rows = text.split("\n")
            self.assertLessEqual(len(rows), 400, path)
            self.assertLessEqual(max(len(row) for row in rows), 120, path)

    def test_functions_have_at_most_forty_lines(self):
        for path, node in nodes(ast.FunctionDef):
            self.assertLessEqual(node.end_lineno - node.lineno + 1, 40, (path, node.name))

    def test_imports_come_from_the_package(self):
        for path, node in nodes(ast.ImportFrom):
            where = (path, node.lineno)
            self.assertEqual(node.level, 0, where)
            self.assertTrue(node.module.startswith("letterhouse.") or node.module in LIBRARY, where)
            self.assertTrue(all(name.asname is None and name.name != "*" for name in node.names), where)

    def test_nothing_that_is_barred(self):
        self.assertEqual([(path, node) for path, node in nodes(BARRED_NODES)], [])
        for path in FILES:
            self.assertIsNone(BARRED_WORDS.search(path.read_text()), path)

    def test_no_barred_names(self):
        for path, tree in trees():
            for node in ast.walk(tree):
                for field in ("id", "arg", "attr", "name"):
                    self.assertNotIn(getattr(node, field, None), BARRED_NAMES, (path, field))

    def test_names_are_plain_and_no_other_builtins(self):
        for path, node in nodes(ast.Name):
            where = (path, node.lineno, node.id)
            if hasattr(builtins, node.id):
                self.assertIn(node.id, BUILTINS, where)
                self.assertIsInstance(node.ctx, ast.Load, where)
            else:
                self.assertRegex(node.id, r"\A(_|_?[A-Za-z][A-Za-z0-9_]*)\Z", where)
        for path, node in nodes(ast.arg):
            self.assertFalse(hasattr(builtins, node.arg), (path, node.lineno, node.arg))

    def test_methods_are_own_ones_or_listed(self):
        own = {node.name for _, node in nodes(ast.FunctionDef)}
        for path, node in nodes(ast.Call):
            if isinstance(node.func, ast.Attribute):
                self.assertIn(node.func.attr, METHODS | own, (path, node.lineno))

    def test_plain_values_are_listed_kinds_without_a_percent_sign(self):
        for path, node in nodes(ast.Constant):
            where = (path, node.lineno)
            self.assertNotIsInstance(node.value, (float, complex), where)
            if isinstance(node.value, str):
                self.assertNotIn(chr(37), node.value, where)

    def test_bytes_are_not_made(self):
        for path, node in nodes(ast.Call):
            if isinstance(node.func, ast.Name):
                self.assertNotEqual(node.func.id, "bytes", (path, node.lineno))

    def test_no_files_import_from_each_other(self):
        wanted = {}
        for path, node in nodes(ast.ImportFrom):
            name = "letterhouse." + path.stem
            wanted.setdefault(name, set()).add(node.module)
        while wanted:
            ready = [name for name in wanted if not any(other in wanted for other in wanted[name])]
            self.assertTrue(ready, wanted)
            for name in ready:
                del wanted[name]


if __name__ == "__main__":
    unittest.main()
