"""What ../shared/LANGUAGE.md asks of the files of the package, as far as a short test can see it."""

import ast
import pathlib
import unittest

PACKAGE = pathlib.Path(__file__).resolve().parent.parent / "statementlots"
FILES = sorted(path for path in PACKAGE.rglob("*") if path.is_file() and path.parent.name != "__pycache__")

LIBRARY = {
    "heapq": {"heapify", "heappop", "heappush", "heappushpop", "heapreplace"},
    "math": {"comb", "factorial", "gcd", "isqrt", "lcm", "perm"},
    "itertools": {"accumulate", "chain", "combinations", "islice", "pairwise", "permutations", "product",
                  "zip_longest"},
    "collections": {"defaultdict"},
}
BUILTINS = set("""
    len range enumerate zip min max sum abs sorted reversed int str bool bytes list tuple dict set frozenset isinstance
    ord repr any all divmod pow getattr hasattr setattr iter next map super property staticmethod classmethod
    Exception ValueError TypeError KeyError IndexError LookupError ZeroDivisionError ArithmeticError OverflowError
    RuntimeError NotImplementedError AttributeError StopIteration NotImplemented
""".split())
BARRED_NODES = (
    ast.AsyncFor, ast.AsyncFunctionDef, ast.AsyncWith, ast.Await, ast.Div, ast.Global, ast.Import, ast.MatMult,
)
BARRED_NAMES = {"register", "mro", "elements", "open", "input", "law", "version_info", "with_traceback", "add_note"}
BARRED_WORDS = {"type", "typing", "enum", "Enum", "namedtuple", "NamedTuple", "dataclass", "Protocol", "Generic"}
DOUBLE = {"__init__", "__eq__", "__repr__", "__str__", "__len__", "__add__", "__sub__", "__mul__", "__or__"}


def trees():
    return [(path.name, ast.parse(path.read_text())) for path in FILES]


def nodes(*kinds):
    return [(name, node) for name, tree in trees() for node in ast.walk(tree) if isinstance(node, kinds)]


class Files(unittest.TestCase):
    def test_the_folder_has_python_files_alone(self):
        self.assertTrue((PACKAGE / "__init__.py").is_file())
        for path in FILES:
            self.assertRegex(path.name, r"^(__init__|[a-z][a-z0-9_]*)\.py$")
            self.assertFalse(path.name.startswith(("test", "law_")))

    def test_sizes(self):
        for path in FILES:
            lines = path.read_text().splitlines()
            self.assertLessEqual(len(lines), 399, path.name)
            self.assertLessEqual(max(map(len, lines)), 120, path.name)
        for name, node in nodes(ast.FunctionDef):
            self.assertLessEqual(node.end_lineno - node.lineno + 1, 40, (name, node.name))

    def test_signs(self):
        for path in FILES:
            self.assertTrue(all(sign == 10 or 32 <= sign <= 126 for sign in path.read_bytes()), path.name)
            self.assertNotIn("_wall", path.read_text())


class Statements(unittest.TestCase):
    def test_module_level(self):
        allowed = (ast.ImportFrom, ast.FunctionDef, ast.ClassDef, ast.Assign)
        for name, tree in trees():
            for place, node in enumerate(tree.body):
                docstring = place == 0 and isinstance(node, ast.Expr) and isinstance(node.value, ast.Constant)
                self.assertTrue(docstring or isinstance(node, allowed), (name, node.lineno))

    def test_imports(self):
        for name, node in nodes(ast.ImportFrom):
            self.assertEqual(node.level, 0, name)
            self.assertTrue(all(part.asname is None for part in node.names), name)
            if node.module in LIBRARY:
                self.assertLessEqual({part.name for part in node.names}, LIBRARY[node.module], name)
            else:
                self.assertRegex(node.module, r"^statementlots\.[a-z_]+$")

    def test_what_is_barred(self):
        for name, node in nodes(*BARRED_NODES):
            self.fail((name, node.lineno))
        for name, node in nodes(ast.FunctionDef, ast.ClassDef):
            for mark in node.decorator_list:
                self.assertIn(ast.unparse(mark), ("property", "classmethod", "staticmethod"), name)

    def test_is_stands_with_constants(self):
        for name, node in nodes(ast.Compare):
            for sign, side in zip(node.ops, node.comparators):
                if isinstance(sign, (ast.Is, ast.IsNot)):
                    self.assertIn(ast.unparse(side), ("None", "True", "False"), (name, node.lineno))


class Names(unittest.TestCase):
    def test_builtins(self):
        known = set(vars(__import__("builtins"))) - {"_"}
        for name, node in nodes(ast.Name):
            self.assertTrue(node.id not in known or node.id in BUILTINS, (name, node.id))
            if not isinstance(node.ctx, ast.Load):
                self.assertNotIn(node.id, known, name)
        for name, node in nodes(ast.arg):
            self.assertNotIn(node.arg, known, name)

    def test_barred_names(self):
        for name, node in nodes(ast.Name, ast.Attribute, ast.FunctionDef, ast.arg, ast.keyword):
            word = [getattr(node, part) for part in ("id", "attr", "name", "arg") if hasattr(node, part)][0]
            self.assertNotIn(word, BARRED_NAMES | BARRED_WORDS, name)
            self.assertTrue(word is None or not word.startswith("__") or word in DOUBLE, (name, word))

    def test_strings(self):
        documented = (ast.Module, ast.ClassDef, ast.FunctionDef)
        docstrings = [node.body[0].value for _, node in nodes(*documented)
                      if node.body and isinstance(node.body[0], ast.Expr)]
        places = {(node.lineno, node.col_offset, node.value) for node in docstrings if isinstance(node, ast.Constant)}
        for name, node in nodes(ast.Constant):
            self.assertNotIsInstance(node.value, (float, complex, bytes), name)
            if isinstance(node.value, str):
                self.assertNotIn("%", node.value, name)
                if (node.lineno, node.col_offset, node.value) not in places:
                    self.assertFalse(BARRED_WORDS & set(node.value.split()), (name, node.value))

    def test_no_import_goes_round(self):
        needs = {f"statementlots.{name[:-3]}": [] for name, _ in trees()}
        for name, node in nodes(ast.ImportFrom):
            needs[f"statementlots.{name[:-3]}"].append(node.module)
        while needs:
            free = [name for name, others in needs.items() if not any(other in needs for other in others)]
            self.assertTrue(free, needs)
            for name in free:
                del needs[name]


if __name__ == "__main__":
    unittest.main()
