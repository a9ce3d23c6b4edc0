"""The form of the package: what of the language's rules can be seen from the syntax alone."""

import ast
import builtins
import re
import unittest
from pathlib import Path

FOLDER = Path(__file__).resolve().parent.parent / "halfsearch"
FILES = {file.stem: file.read_bytes().decode("ascii") for file in sorted(FOLDER.glob("*.py"))}
TREES = {name: ast.parse(text) for name, text in FILES.items()}

# `_` is none of Python's own, but running examples leaves one behind.
PYTHONS_OWN = set(dir(builtins)) - {"_"}

BUILTINS = set("""
    len range enumerate zip min max sum abs sorted reversed int str bool bytes list tuple dict set frozenset
    isinstance ord repr any all divmod pow getattr hasattr setattr iter next map type super property
    staticmethod classmethod Exception ValueError TypeError KeyError IndexError LookupError ZeroDivisionError
    ArithmeticError OverflowError RuntimeError NotImplementedError AttributeError StopIteration NotImplemented
""".split())

METHODS = set("""
    append clear copy count endswith extend find get index insert isalnum isalpha isdigit islower isspace isupper
    items join keys ljust lower lstrip partition pop remove replace reverse rfind rjust rpartition rsplit rstrip
    setdefault split splitlines startswith strip update upper values zfill bit_length title capitalize swapcase
    casefold center expandtabs removeprefix removesuffix rindex isascii isdecimal isnumeric istitle isidentifier
    isprintable add discard __init__
""".split())

LIBRARY = {
    "heapq": {"heappush", "heappop", "heapify", "heapreplace", "heappushpop"},
    "math": {"gcd", "lcm", "isqrt", "comb", "perm", "factorial"},
    "itertools": {"product", "combinations", "permutations", "chain", "accumulate", "pairwise", "islice",
                  "zip_longest"},
    "collections": {"defaultdict", "deque"},
}
MODULE_LEVEL = (ast.ImportFrom, ast.FunctionDef, ast.ClassDef, ast.Assign)
NOT_ALLOWED = (ast.AsyncFunctionDef, ast.AsyncFor, ast.AsyncWith, ast.Await, ast.Div, ast.MatMult, ast.Import,
               ast.Global, ast.TryStar, ast.AnnAssign)
DEFINED_NAMES = (ast.FunctionDef, ast.ClassDef)


def nodes(kinds):
    """Each syntax node of these kinds in the package, with the name of its file."""
    return [(name, node) for name, tree in TREES.items() for node in ast.walk(tree) if isinstance(node, kinds)]


def bound_names(tree):
    """The names of the parameters and variables of a file."""
    for node in ast.walk(tree):
        if isinstance(node, ast.arg):
            yield node.arg
        if isinstance(node, ast.Name) and isinstance(node.ctx, ast.Store):
            yield node.id


class FormTest(unittest.TestCase):
    def test_the_folder_holds_plain_files_only(self):
        for entry in FOLDER.iterdir():
            if entry.name != "__pycache__":
                self.assertRegex(entry.name, r"\A(__init__|[a-z][a-z0-9_]*)\.py\Z")
        self.assertIn("__init__", FILES)

    def test_sizes_and_characters(self):
        for name, text in FILES.items():
            self.assertLess(text.count("\n"), 400, name)
            for line in text.split("\n"):
                self.assertRegex(line, r"\A[ -~]{0,120}\Z", name)
        for name, node in nodes(ast.FunctionDef):
            self.assertLessEqual(node.end_lineno - node.lineno + 1, 40, (name, node.name))

    def test_module_level(self):
        for name, tree in TREES.items():
            self.assertIsNotNone(ast.get_docstring(tree), name)
            for node in tree.body[1:]:
                self.assertIsInstance(node, MODULE_LEVEL, name)

    def test_imports_name_the_file_that_defines(self):
        told = {name: set() for name in TREES}
        for name, node in nodes(ast.ImportFrom):
            if node.module in LIBRARY:
                continue
            self.assertRegex(node.module, r"\Ahalfsearch\.[a-z]+\Z")
            source = node.module.partition(".")[2]
            told[name].add(source)
            defined = {part.name for part in TREES[source].body if isinstance(part, DEFINED_NAMES)}
            for alias in node.names:
                self.assertIn(alias.name, defined, name)
                self.assertIsNone(alias.asname)
        while told:
            leaves = [name for name in told if not told[name] & set(told)]
            self.assertTrue(leaves, "files import from each other")
            for name in leaves:
                del told[name]

    def test_the_library_is_imported_by_its_words_and_only_called(self):
        for name, node in nodes(ast.ImportFrom):
            if node.module in LIBRARY:
                for alias in node.names:
                    self.assertIn(alias.name, LIBRARY[node.module], name)
                    self.assertIsNone(alias.asname)
                    reads = [part for part in ast.walk(TREES[name])
                             if isinstance(part, ast.Name) and part.id == alias.name]
                    calls = [part.func for part in ast.walk(TREES[name])
                             if isinstance(part, ast.Call) and not part.keywords and part.func in reads]
                    self.assertEqual(len(calls), len(reads), name)

    def test_exponents_are_literals(self):
        for name, node in nodes((ast.BinOp, ast.AugAssign)):
            if isinstance(node.op, ast.Pow):
                exponent = node.value if isinstance(node, ast.AugAssign) else node.right
                self.assertIsInstance(exponent, ast.Constant, name)

    def test_statements_and_signs(self):
        self.assertEqual(nodes(NOT_ALLOWED), [])

    def test_builtins(self):
        for name, node in nodes(ast.Name):
            if node.id in PYTHONS_OWN:
                self.assertIn(node.id, BUILTINS, name)

    def test_methods(self):
        own = {node.name for _, node in nodes(ast.FunctionDef)}
        for name, node in nodes(ast.Call):
            if isinstance(node.func, ast.Attribute):
                self.assertIn(node.func.attr, METHODS | own, name)

    def test_names(self):
        for name, tree in TREES.items():
            barred = {part.name for part in tree.body if isinstance(part, ast.ClassDef)}
            barred |= {alias.name for part in tree.body if isinstance(part, ast.ImportFrom) for alias in part.names}
            for word in bound_names(tree):
                self.assertTrue(re.fullmatch(r"_|_?[A-Za-z][A-Za-z0-9_]*", word), (name, word))
                self.assertNotIn(word, barred, name)
                self.assertNotIn(word, PYTHONS_OWN, name)
            defined = [part.name for part in tree.body if isinstance(part, DEFINED_NAMES)]
            self.assertEqual(len(defined), len(set(defined)), name)

    def test_values(self):
        for name, node in nodes(ast.Constant):
            self.assertNotIsInstance(node.value, (float, complex), name)
            if isinstance(node.value, str):
                self.assertNotIn("%", node.value, name)

    def test_no_generator_expressions_and_lambdas(self):
        self.assertEqual(nodes((ast.GeneratorExp, ast.Lambda)), [])

    def test_classes_hold_methods_and_plain_values(self):
        for name, node in nodes(ast.ClassDef):
            self.assertIn(node, TREES[name].body, name)
            self.assertEqual((node.decorator_list, node.keywords), ([], []))
            self.assertIsNotNone(ast.get_docstring(node), name)
            for part in node.body[1:]:
                self.assertIsInstance(part, (ast.FunctionDef, ast.Assign), name)
                if isinstance(part, ast.FunctionDef):
                    self.assertLessEqual({word.id for word in part.decorator_list}, {"property", "classmethod"})
                else:
                    self.assertIsInstance(part.value, ast.Constant)
            defined = [part.name for part in node.body if isinstance(part, DEFINED_NAMES)]
            self.assertEqual(len(defined), len(set(defined)), name)

    def test_errors_are_created_where_they_are_raised(self):
        for name, node in nodes(ast.Raise):
            self.assertTrue(node.exc is None or isinstance(node.exc, ast.Call), name)


if __name__ == "__main__":
    unittest.main()
