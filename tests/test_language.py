"""Rules of the program's language that can be read off its files."""

import ast
import builtins
import pathlib
import re
import unittest

PACKAGE = pathlib.Path(__file__).resolve().parent.parent / "sturdysort"
LIBRARY = {"heapq": "heappush heappop heapify heapreplace heappushpop", "math": "gcd lcm isqrt comb perm factorial",
           "itertools": "product combinations permutations chain accumulate pairwise islice zip_longest",
           "collections": "defaultdict"}
BUILTINS = """len range enumerate zip min max sum abs sorted reversed int str bool list tuple dict set isinstance ord repr
any all divmod pow iter next map super ValueError TypeError KeyError IndexError LookupError ZeroDivisionError StopIteration
NotImplemented""".split()
METHODS = """append clear copy count endswith extend find get index insert isalnum isalpha isdigit islower isspace isupper
items join keys ljust lower lstrip partition pop remove replace reverse rfind rjust rpartition rsplit rstrip setdefault
split splitlines startswith strip update upper values zfill bit_length add discard sort""".split()
BARRED_IN_STRINGS = """typing typing_extensions enum Enum IntEnum StrEnum Flag IntFlag Generic Protocol ABC ABCMeta
namedtuple NamedTuple TypedDict TYPE_CHECKING abstractmethod dataclass overload contextmanager""".split()
BARRED = BARRED_IN_STRINGS + """type register mro elements open input law version_info with_traceback add_note eval exec
globals locals vars dir id help exit quit compile""".split()
NODES = (ast.Global, ast.AsyncFunctionDef, ast.AsyncFor, ast.AsyncWith, ast.Await, ast.Div, ast.AnnAssign)


def is_builtin(name):
    """Whether Python gives the name a meaning; it keeps the last example's value as _."""
    return name != "_" and hasattr(builtins, name)


def files():
    return sorted([path for path in PACKAGE.rglob("*") if path.is_file() and "__pycache__" not in path.parts])


def trees():
    return {path.stem: ast.parse(path.read_text("ascii")) for path in files()}


def names_bound(tree):
    """All names that a file binds, attributes aside."""
    found = []
    for node in ast.walk(tree):
        if isinstance(node, ast.Name) and not isinstance(node.ctx, ast.Load):
            found.append(node.id)
        if isinstance(node, ast.arg):
            found.append(node.arg)
        if isinstance(node, (ast.FunctionDef, ast.ClassDef)):
            found.append(node.name)
    return found


def methods_of(tree):
    """All functions that stand in a class."""
    return [item for node in ast.walk(tree) if isinstance(node, ast.ClassDef) for item in node.body
            if isinstance(item, ast.FunctionDef)]


class Files(unittest.TestCase):
    def test_plain_files(self):
        self.assertLessEqual(len(files()), 100)
        for path in files():
            self.assertRegex(path.name, r"^([a-z][a-z0-9_]*|__init__)\.py$")
            self.assertEqual(path.parent, PACKAGE)
            text = path.read_text("utf-8")
            self.assertIsNone(re.search(r"[^ -~\n]", text), path)
            self.assertLessEqual(len(text.splitlines()), 399, path)
            self.assertLessEqual(max([len(line) for line in text.splitlines()]), 120, path)

    def test_small_functions(self):
        for name, tree in trees().items():
            for node in ast.walk(tree):
                if isinstance(node, ast.FunctionDef):
                    self.assertLessEqual(node.end_lineno - node.lineno + 1, 40, (name, node.name))
                    self.assertEqual(node.decorator_list, [], (name, node.name))

    def test_module_level(self):
        allowed = (ast.ImportFrom, ast.FunctionDef, ast.ClassDef, ast.Assign)
        for name, tree in trees().items():
            for node in tree.body[1:]:
                self.assertIsInstance(node, allowed, name)
            self.assertIsInstance(ast.get_docstring(tree), str, name)


class Imports(unittest.TestCase):
    def test_names_the_defining_file(self):
        defined = {name: [node.name for node in tree.body if isinstance(node, (ast.FunctionDef, ast.ClassDef))]
                   + [target.id for node in tree.body if isinstance(node, ast.Assign) for target in node.targets]
                   for name, tree in trees().items()}
        for name, tree in trees().items():
            for node in ast.walk(tree):
                self.assertNotIsInstance(node, ast.Import, name)
                if isinstance(node, ast.ImportFrom):
                    self.assertEqual(node.level, 0)
                    package, _, module = node.module.partition(".")
                    known = defined[module] if package == "sturdysort" else LIBRARY[node.module].split()
                    for alias in node.names:
                        self.assertIn(alias.name, known, (name, alias.name))
                        self.assertIsNone(alias.asname)

    def test_no_circles(self):
        imports = {name: [node.module.partition(".")[2] for node in tree.body if isinstance(node, ast.ImportFrom)
                          and node.module.startswith("sturdysort.")] for name, tree in trees().items()}
        while imports:
            free = [name for name, needed in imports.items() if not any(one in imports for one in needed)]
            self.assertTrue(free, imports)
            imports = {name: needed for name, needed in imports.items() if name not in free}

    def test_every_import_is_used(self):
        for name, tree in trees().items():
            used = [node.id for node in ast.walk(tree) if isinstance(node, ast.Name)]
            for node in tree.body:
                if isinstance(node, ast.ImportFrom):
                    for alias in node.names:
                        self.assertIn(alias.name, used, name)


class Words(unittest.TestCase):
    def test_names(self):
        for name, tree in trees().items():
            methods = [method.name for method in methods_of(tree)]
            for bound in names_bound(tree):
                self.assertRegex(bound, r"^([A-Za-z][A-Za-z0-9_]*|_|__init__)$", name)
                self.assertNotIn(bound, BARRED, name)
                if bound not in methods:
                    self.assertFalse(is_builtin(bound), (name, bound))

    def test_locals_have_no_imported_names(self):
        for name, tree in trees().items():
            imported = [alias.name for node in tree.body if isinstance(node, ast.ImportFrom) for alias in node.names]
            imported += [node.name for node in tree.body if isinstance(node, ast.ClassDef)]
            for node in tree.body:
                if isinstance(node, ast.FunctionDef):
                    self.assertEqual([one for one in names_bound(node) if one in imported], [], name)
            self.assertEqual(len(imported), len(set(imported)))

    def test_builtins_and_methods(self):
        own = [method.name for tree in trees().values() for method in methods_of(tree)]
        for name, tree in trees().items():
            for node in ast.walk(tree):
                if isinstance(node, ast.Name) and is_builtin(node.id):
                    self.assertIn(node.id, BUILTINS, name)
                if isinstance(node, ast.Call) and isinstance(node.func, ast.Attribute):
                    self.assertIn(node.func.attr, METHODS + own, name)

    def test_barred_words_in_strings(self):
        for path in files():
            for node in ast.walk(ast.parse(path.read_text())):
                if isinstance(node, ast.Constant) and isinstance(node.value, str):
                    self.assertNotIn("%", node.value, path)
                    for word in BARRED_IN_STRINGS:
                        self.assertNotRegex(node.value, rf"\b{word}\b", path)


class Statements(unittest.TestCase):
    def test_nodes(self):
        for name, tree in trees().items():
            for node in ast.walk(tree):
                self.assertNotIsInstance(node, NODES, (name, getattr(node, "lineno", 0)))
                if isinstance(node, ast.Constant):
                    self.assertNotIsInstance(node.value, (float, complex), name)
                if isinstance(node, ast.Raise) and node.exc is not None:
                    self.assertIsInstance(node.exc, ast.Call, name)
                if isinstance(node, ast.Compare) and any(isinstance(op, (ast.Is, ast.IsNot)) for op in node.ops):
                    self.assertIsInstance(node.comparators[0], ast.Constant, name)
                if isinstance(node, ast.ClassDef):
                    self.assertLessEqual(len(node.bases), 1, name)

    def test_names_of_methods_are_no_attributes(self):
        for name, tree in trees().items():
            for node in ast.walk(tree):
                if isinstance(node, ast.ClassDef):
                    methods = [method.name for method in methods_of(node)]
                    stored = [one.attr for one in ast.walk(node)
                              if isinstance(one, ast.Attribute) and isinstance(one.ctx, ast.Store)]
                    self.assertEqual([one for one in stored if one in methods], [], name)
                    self.assertEqual(len(methods), len(set(methods)), name)


if __name__ == "__main__":
    unittest.main()
