"""Some of the language's rules that a plain look at the files can check."""

import ast
import pathlib
import unittest
import warnings

PACKAGE = pathlib.Path(__file__).resolve().parent.parent / "attachhall"
LIBRARY = {
    "heapq": {"heappush", "heappop", "heapify", "heapreplace", "heappushpop"},
    "math": {"gcd", "lcm", "isqrt", "comb", "perm", "factorial"},
    "itertools": {"product", "combinations", "permutations", "chain", "accumulate",
                  "pairwise", "islice", "zip_longest"},
    "collections": {"defaultdict"},
}
FILES = sorted(PACKAGE.glob("*.py"))


def allowed_import(node):
    if isinstance(node, ast.Import) or node.level != 0:
        return False
    if node.module in LIBRARY:
        return all(part.name in LIBRARY[node.module] and part.asname is None
                   for part in node.names)
    return node.module.startswith("attachhall.") and all(
        part.name != "*" for part in node.names)


class LanguageTest(unittest.TestCase):
    def test_the_folder_holds_files_of_the_program_only(self):
        found = sorted(path for path in PACKAGE.iterdir() if path.name != "__pycache__")
        self.assertEqual(found, FILES)
        self.assertIn(PACKAGE / "__init__.py", FILES)

    def test_signs_and_sizes(self):
        for path in FILES:
            with self.subTest(path=path.name):
                text = path.read_text(encoding="utf-8")
                self.assertLessEqual(set(text), {chr(number) for number in range(32, 127)} | {"\n"})
                rows = text.split("\n")
                self.assertLessEqual(len(rows), 399)
                self.assertLessEqual(max(len(row) for row in rows), 120)

    def test_python_gives_no_warning(self):
        with warnings.catch_warnings():
            warnings.simplefilter("error")
            for path in FILES:
                with self.subTest(path=path.name):
                    compile(path.read_text(encoding="utf-8"), path.name, "exec")

    def test_parts(self):
        for path in FILES:
            for node in ast.walk(ast.parse(path.read_text(encoding="utf-8"))):
                with self.subTest(path=path.name, row=getattr(node, "lineno", 0)):
                    self.check(node)

    def check(self, node):
        if isinstance(node, (ast.Import, ast.ImportFrom)):
            self.assertTrue(allowed_import(node))
        elif isinstance(node, ast.FunctionDef):
            self.assertLessEqual(node.end_lineno - node.lineno + 1, 40)
        elif isinstance(node, ast.Constant):
            self.assertNotIsInstance(node.value, (float, complex))
            self.assertNotIn("%", str(node.value))
        else:
            self.assertNotIsInstance(node, (ast.Global, ast.AsyncFunctionDef, ast.Div))
