"""The rules for the files of the package that a short test can see; LANGUAGE.md has all of them."""

import ast
import pathlib
import unittest

PACKAGE = pathlib.Path(__file__).resolve().parent.parent / "termseats"
LIBRARY = {
    "heapq": {"heappush", "heappop", "heapify", "heapreplace", "heappushpop"},
    "math": {"gcd", "lcm", "isqrt", "comb", "perm", "factorial"},
    "itertools": {"product", "combinations", "permutations"}}


class Files(unittest.TestCase):
    def setUp(self):
        self.files = sorted(PACKAGE.rglob("*.py"))
        self.trees = [(path, ast.parse(path.read_text())) for path in self.files]

    def test_the_folder_holds_python_files_alone(self):
        self.assertIn(PACKAGE / "__init__.py", self.files)
        for path in PACKAGE.iterdir():
            if path.name != "__pycache__":
                self.assertRegex(path.name, r"\A[a-z_]+\.py\Z")

    def test_sizes_and_characters(self):
        for path in self.files:
            text = path.read_text()
            self.assertLessEqual(text.count("\n"), 399, path)
            self.assertEqual([sign for sign in text if not (" " <= sign <= "~" or sign == "\n")], [], path)
            for line in text.split("\n"):
                self.assertLessEqual(len(line), 120, path)

    def test_functions_are_short(self):
        for path, tree in self.trees:
            for node in ast.walk(tree):
                if isinstance(node, ast.FunctionDef):
                    self.assertLessEqual(node.end_lineno - node.lineno + 1, 40, (path, node.name))

    def test_imports_are_of_the_package_and_of_few_plain_functions(self):
        # So there is no clock, no file and no random source.
        for path, tree in self.trees:
            for node in ast.walk(tree):
                self.assertNotIsInstance(node, ast.Import, path)
                if isinstance(node, ast.ImportFrom):
                    names = {alias.name for alias in node.names}
                    if node.module in LIBRARY:
                        self.assertLessEqual(names, LIBRARY[node.module], path)
                    else:
                        self.assertRegex(node.module, r"\Atermseats\.[a-z]+\Z")
                    self.assertEqual((node.level, [alias.asname for alias in node.names]),
                                     (0, [None] * len(node.names)))

    def test_no_floats_and_no_statements_that_are_barred(self):
        for path, tree in self.trees:
            for node in ast.walk(tree):
                if isinstance(node, ast.Constant):
                    self.assertNotIsInstance(node.value, (float, complex), path)
                self.assertNotIsInstance(node, (ast.Div, ast.Global, ast.AsyncFunctionDef), path)


if __name__ == "__main__":
    unittest.main()
