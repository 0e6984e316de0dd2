"""The rules for the files of the package that a short test can see; LANGUAGE.md has all of them."""

import ast
import builtins
import pathlib
import re
import unittest

PACKAGE = pathlib.Path(__file__).resolve().parent.parent / "termseats"
LIBRARY = {
    "heapq": {"heappush", "heappop", "heapify", "heapreplace", "heappushpop"},
    "math": {"gcd", "lcm", "isqrt", "comb", "perm", "factorial"},
    "itertools": {"product", "combinations", "permutations"}}
# An interactive session, and a test of examples, keeps the last result among the builtins as _.
NAMES = set(dir(builtins)) - {"_"}
BUILTINS = set("""len range enumerate zip min max sum abs sorted reversed int str bool list tuple dict set isinstance ord
    any all divmod property ValueError OverflowError""".split())
METHODS = set("""append clear copy count endswith extend find get index insert isalnum isalpha isdigit items join keys
    ljust lower lstrip partition pop remove replace reverse rfind rjust rpartition rsplit rstrip setdefault split
    splitlines startswith strip update upper values zfill""".split())
WORDS = set("""type typing typing_extensions enum Enum IntEnum StrEnum Flag IntFlag Generic Protocol ABC ABCMeta
    namedtuple NamedTuple TypedDict TYPE_CHECKING abstractmethod dataclass overload contextmanager register mro elements
    open input law eval exec exit getattr setattr vars globals locals compile id dir super os gc""".split())


def bound_names(function):
    """The names of the parameters and the variables of a function, and of all within it."""
    names = {one.arg for one in ast.walk(function) if isinstance(one, ast.arg)}
    return names | {one.id for one in ast.walk(function) if isinstance(one, ast.Name) and isinstance(one.ctx, ast.Store)}


def names_of_module(tree):
    """The names of imports and classes, and those of functions and values, of a file."""
    first, second = set(), set()
    for node in tree.body:
        if isinstance(node, ast.ImportFrom):
            first |= {alias.name for alias in node.names}
        elif isinstance(node, ast.ClassDef):
            first.add(node.name)
        elif isinstance(node, ast.FunctionDef):
            second.add(node.name)
        elif isinstance(node, ast.Assign):
            second.add(node.targets[0].id)
    return first, second


class Files(unittest.TestCase):
    def setUp(self):
        self.files = sorted(PACKAGE.rglob("*.py"))
        self.trees = [(path, ast.parse(path.read_text())) for path in self.files]

    def test_the_folder_holds_python_files_alone(self):
        self.assertIn(PACKAGE / "__init__.py", self.files)
        for path in PACKAGE.iterdir():
            if path.name != "__pycache__":
                self.assertRegex(path.name, r"\A[a-z_]+\.py\Z")

    def test_sizes_and_characters(self):
        for path in self.files:
            text = path.read_text()
            self.assertLessEqual(text.count("\n"), 399, path)
            self.assertEqual([sign for sign in text if not (" " <= sign <= "~" or sign == "\n")], [], path)
            for line in text.split("\n"):
                self.assertLessEqual(len(line), 120, path)

    def test_functions_are_short(self):
        for path, tree in self.trees:
            for node in ast.walk(tree):
                if isinstance(node, ast.FunctionDef):
                    self.assertLessEqual(node.end_lineno - node.lineno + 1, 40, (path, node.name))

    def test_imports_are_of_the_package_and_of_few_plain_functions(self):
        # So there is no clock, no file and no random source.
        for path, tree in self.trees:
            for node in ast.walk(tree):
                self.assertNotIsInstance(node, ast.Import, path)
                if isinstance(node, ast.ImportFrom):
                    names = {alias.name for alias in node.names}
                    if node.module in LIBRARY:
                        self.assertLessEqual(names, LIBRARY[node.module], path)
                    else:
                        self.assertRegex(node.module, r"\Atermseats\.[a-z]+\Z")
                    self.assertEqual((node.level, [alias.asname for alias in node.names]),
                                     (0, [None] * len(node.names)))

    def test_no_floats_and_no_statements_that_are_barred(self):
        for path, tree in self.trees:
            for node in ast.walk(tree):
                if isinstance(node, ast.Constant):
                    self.assertNotIsInstance(node.value, (float, complex), path)
                self.assertNotIsInstance(node, (ast.Div, ast.Global, ast.AsyncFunctionDef), path)

    def test_no_name_means_two_things(self):
        for path, tree in self.trees:
            first, second = names_of_module(tree)
            self.assertEqual(first & second, set(), path)
            for node in ast.walk(tree):
                if isinstance(node, (ast.FunctionDef, ast.Lambda)):
                    self.assertEqual(bound_names(node) & (first | second), set(), path)
                    self.assertEqual(bound_names(node) & NAMES, set(), path)
            self.assertEqual((first | second) & NAMES, set(), path)

    def test_attributes_methods_and_properties_have_names_of_their_own(self):
        methods, properties, attributes = set(), set(), set()
        for _, tree in self.trees:
            for node in ast.walk(tree):
                if isinstance(node, ast.ClassDef):
                    for one in node.body:
                        if isinstance(one, ast.FunctionDef):
                            (properties if one.decorator_list else methods).add(one.name)
                if isinstance(node, ast.Attribute) and isinstance(node.ctx, ast.Store):
                    attributes.add(node.attr)
        self.assertEqual(properties, {"house", "stand", "number", "led"})
        self.assertEqual([methods & properties, methods & attributes, properties & attributes], [set()] * 3)

    def test_builtins_and_methods(self):
        own = {node.name for _, tree in self.trees for node in ast.walk(tree) if isinstance(node, ast.FunctionDef)}
        for path, tree in self.trees:
            for node in ast.walk(tree):
                if isinstance(node, ast.Name) and node.id in NAMES:
                    self.assertIn(node.id, BUILTINS, path)
                if isinstance(node, ast.Call) and isinstance(node.func, ast.Attribute):
                    self.assertIn(node.func.attr, METHODS | own, path)
                self.assertNotIsInstance(node, ast.GeneratorExp, path)
                if isinstance(node, ast.Constant) and isinstance(node.value, str):
                    self.assertNotIn("%", node.value, path)

    def test_words_that_are_not_used(self):
        for path in self.files:
            self.assertEqual(set(re.findall(r"[A-Za-z_]+", path.read_text())) & WORDS, set(), path)

    def test_files_import_from_one_another_in_one_order(self):
        ahead = {path.stem: [node.module.split(".")[-1] for node in tree.body
                             if isinstance(node, ast.ImportFrom) and node.module not in LIBRARY]
                 for path, tree in self.trees}
        while ahead:
            first = [name for name, others in ahead.items() if not set(others) & set(ahead)]
            self.assertNotEqual(first, [], ahead)
            for name in first:
                del ahead[name]

    def test_what_is_imported_is_used(self):
        for path, tree in self.trees:
            used = {node.id for node in ast.walk(tree) if isinstance(node, ast.Name)}
            for node in tree.body:
                if isinstance(node, ast.ImportFrom):
                    self.assertLessEqual({alias.name for alias in node.names}, used, path)


if __name__ == "__main__":
    unittest.main()
