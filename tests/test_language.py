"""Those rules of the language that can be checked by a glance at the files of the package."""

import ast
import pathlib
import unittest

FOLDER = pathlib.Path(__file__).parent.parent / "sumlives"
LIBRARY = {"math": {"gcd", "lcm", "isqrt", "comb", "perm", "factorial"},
           "itertools": {"product", "combinations", "permutations"}}
BUILTINS = """
    len range enumerate zip min max sum abs sorted reversed int str bool list tuple dict set frozenset
    isinstance ord repr any all divmod iter next map property staticmethod classmethod super Exception
    ValueError TypeError KeyError IndexError LookupError ZeroDivisionError ArithmeticError OverflowError
    RuntimeError NotImplementedError AttributeError StopIteration NotImplemented
""".split()
NOT_ALLOWED = (ast.Global, ast.AsyncFunctionDef, ast.AsyncFor, ast.AsyncWith, ast.Await, ast.Div, ast.MatMult)
TAKE_LISTS = ("any", "all", "min", "max", "sum", "sorted")
BARRED = {"register", "mro", "elements", "open", "input", "law", "type", "typing", "enum", "_record", "getattr", "hash"}


def files():
    return sorted(FOLDER.glob("*.py"))


def trees():
    return [(path.name, ast.parse(path.read_text(encoding="ascii"))) for path in files()]


def nodes(kind):
    return [(name, node) for name, tree in trees() for node in ast.walk(tree) if isinstance(node, kind)]


def bound(tree):
    """All names that a file gives a meaning to."""
    found = set()
    for node in ast.walk(tree):
        if isinstance(node, (ast.FunctionDef, ast.ClassDef)):
            found.add(node.name)
        elif isinstance(node, ast.arg):
            found.add(node.arg)
        elif isinstance(node, ast.alias):
            found.add(node.asname or node.name)
        elif isinstance(node, ast.Name) and isinstance(node.ctx, ast.Store):
            found.add(node.id)
    return found


def made_by(tree):
    """The functions, classes and values that stand at the top of a file."""
    values = [target.id for node in tree.body if isinstance(node, ast.Assign) for target in node.targets]
    return {node.name for node in tree.body if hasattr(node, "name")} | set(values)


class Language(unittest.TestCase):
    def test_the_folder_holds_its_files_only(self):
        others = [path.name for path in FOLDER.iterdir() if path.name != "__pycache__" and path.suffix != ".py"]
        self.assertEqual(others, [])

    def test_characters_and_sizes(self):
        for path in files():
            text = path.read_bytes().decode("ascii")
            self.assertLessEqual(set(text), {"\n", *map(chr, range(32, 127))}, path.name)
            lines = text.splitlines()
            self.assertLessEqual(len(lines), 399, path.name)
            self.assertLessEqual(max(map(len, lines)), 120, path.name)

    def test_functions_are_small(self):
        for name, node in nodes(ast.FunctionDef):
            self.assertLessEqual(node.end_lineno - node.lineno + 1, 40, (name, node.name))

    def test_imports(self):
        modules = {"sumlives." + path.stem for path in files()}
        for name, node in nodes((ast.Import, ast.ImportFrom)):
            self.assertIsInstance(node, ast.ImportFrom, (name, node.lineno))
            self.assertEqual([alias.asname for alias in node.names], [None] * len(node.names))
            if node.module not in modules:
                self.assertLessEqual({alias.name for alias in node.names}, LIBRARY[node.module], (name, node.lineno))

    def test_imports_name_the_file_that_defines(self):
        made = {"sumlives." + name[:-3]: made_by(tree) for name, tree in trees()}
        for name, node in nodes(ast.ImportFrom):
            if node.module in made:
                self.assertLessEqual({alias.name for alias in node.names}, made[node.module], (name, node.lineno))

    def test_statements_and_operators(self):
        self.assertEqual([(name, node) for name, node in nodes(NOT_ALLOWED)], [])
        for name, node in nodes(ast.Constant):
            self.assertNotIsInstance(node.value, (float, complex), name)

    def test_names(self):
        for name, tree in trees():
            found = bound(tree)
            self.assertEqual(found & (BARRED | set(BUILTINS)), set(), name)
            for node in ast.walk(tree):
                if isinstance(node, ast.Name):
                    self.assertIn(node.id, found | set(BUILTINS), (name, node.lineno))

    def test_builtins_take_lists_instead_of_generators(self):
        for name, node in nodes(ast.Call):
            if isinstance(node.func, ast.Name) and node.func.id in TAKE_LISTS:
                for argument in node.args:
                    self.assertNotIsInstance(argument, ast.GeneratorExp, (name, node.lineno))

    def test_nothing_is_sorted_by_an_order_of_its_own(self):
        # Lattices and factors have orders that are no orders of keys: nothing in the package may sort by them.
        for name, node in nodes(ast.Attribute):
            self.assertNotEqual(node.attr, "sort", (name, node.lineno))


if __name__ == "__main__":
    unittest.main()
