"""The rules of the language that can be told from a file at a glance: sizes, imports, names, calls."""

import ast
import builtins
import unittest
from pathlib import Path

PACKAGE = Path(__file__).parent.parent / "middlerows"
FILES = sorted(PACKAGE.glob("**/*.py"))
LIBRARY = {
    "heapq": "heappush heappop heapify heapreplace heappushpop", "math": "gcd lcm isqrt comb perm factorial",
    "itertools": "product combinations permutations"}
BUILTINS = set("""len range enumerate zip min max sum abs sorted reversed int str bool bytes list tuple dict set
    frozenset isinstance ord repr any all divmod Exception ValueError TypeError KeyError IndexError LookupError
    ZeroDivisionError ArithmeticError OverflowError RuntimeError NotImplementedError AttributeError StopIteration
    NotImplemented iter next map property staticmethod classmethod super object float""".split())
METHODS = set("""append clear copy count endswith extend find get index insert isalnum isalpha isdigit islower isspace
    isupper items join keys ljust lower lstrip partition pop remove replace reverse rfind rjust rpartition rsplit
    rstrip setdefault split splitlines startswith strip update upper values zfill bit_length add discard isascii
    isdecimal __init__""".split())
BARRED_NAMES = set("""register mro elements open input law version_info with_traceback add_note attrgetter breakpoint
    builtins compile copyright credits delattr dir eval exec exit gc getattr globals hasattr help id importlib license
    locals methodcaller os quit setattr type vars sys""".split())
BARRED_WORDS = """type typing typing_extensions enum Enum IntEnum StrEnum Flag IntFlag Generic Protocol ABC ABCMeta
    namedtuple NamedTuple TypedDict TYPE_CHECKING abstractmethod""".split()
TAKE_LISTS = {"any", "all", "min", "max", "sum", "sorted"}
BARRED_NODES = (ast.Global, ast.AsyncFunctionDef, ast.AsyncFor, ast.AsyncWith, ast.Await, ast.Div)


def own_methods(trees):
    return {
        item.name for tree in trees.values() for node in tree.body if isinstance(node, ast.ClassDef)
        for item in node.body if isinstance(item, ast.FunctionDef)}


def bound_names(function):
    """All names that a function binds: parameters, targets, and functions nested in it."""
    names = [part.arg for part in ast.walk(function) if isinstance(part, ast.arg)]
    names += [part.id for part in ast.walk(function) if isinstance(part, ast.Name) and isinstance(part.ctx, ast.Store)]
    names += [part.name for part in ast.walk(function) if isinstance(part, ast.FunctionDef) and part is not function]
    return names


class TestLanguage(unittest.TestCase):
    def setUp(self):
        self.texts = {path: path.read_text(encoding="utf-8") for path in FILES}
        self.trees = {path: ast.parse(text) for path, text in self.texts.items()}
        self.functions = [
            (path, node) for path, tree in self.trees.items() for node in ast.walk(tree)
            if isinstance(node, ast.FunctionDef)]

    def test_files(self):
        others = [path for path in PACKAGE.glob("**/*") if path.suffix != ".py" and "__pycache__" not in path.parts]
        self.assertEqual(others, [])
        for path, text in self.texts.items():
            with self.subTest(path.name):
                self.assertLessEqual(len(text.splitlines()), 399)
                self.assertLessEqual(max(map(len, text.splitlines())), 120)
                self.assertTrue(all(sign == "\n" or " " <= sign <= "~" for sign in text))

    def test_functions_are_small(self):
        for path, node in self.functions:
            with self.subTest(path.name, function=node.name):
                self.assertLessEqual(node.end_lineno - node.lineno + 1, 40)

    def test_module_level(self):
        kinds = (ast.ImportFrom, ast.FunctionDef, ast.ClassDef, ast.Assign)
        for path, tree in self.trees.items():
            for index, node in enumerate(tree.body):
                docstring = index == 0 and isinstance(node, ast.Expr) and isinstance(node.value, ast.Constant)
                with self.subTest(path.name, line=node.lineno):
                    self.assertTrue(docstring or isinstance(node, kinds))

    def test_imports(self):
        seen = {}
        for path, tree in self.trees.items():
            seen[path.stem] = []
            for node in ast.walk(tree):
                self.assertNotIsInstance(node, ast.Import)
                if not isinstance(node, ast.ImportFrom):
                    continue
                with self.subTest(path.name, line=node.lineno):
                    self.assertEqual(node.level, 0)
                    if node.module in LIBRARY:
                        defined = LIBRARY[node.module].split()
                    else:
                        folder, stem = node.module.split(".")
                        self.assertEqual(folder, "middlerows")
                        seen[path.stem].append(stem)
                        tree_of_it = self.trees[PACKAGE / (stem + ".py")]
                        defined = [item.name for item in tree_of_it.body if hasattr(item, "name")]
                        defined += [item.targets[0].id for item in tree_of_it.body if isinstance(item, ast.Assign)]
                    for alias in node.names:
                        self.assertIn(alias.name, defined)
                        self.assertIsNone(alias.asname)
        while seen:
            free = [stem for stem in seen if not any(other in seen for other in seen[stem])]
            self.assertNotEqual(free, [], "files that import from each other")
            seen = {stem: seen[stem] for stem in seen if stem not in free}

    def test_imported_names_are_used(self):
        for path, tree in self.trees.items():
            used = {node.id for node in ast.walk(tree) if isinstance(node, ast.Name)}
            imported = {alias.name for node in tree.body if isinstance(node, ast.ImportFrom) for alias in node.names}
            with self.subTest(path.name):
                self.assertEqual(imported - used, set())

    def test_names_have_one_meaning(self):
        for path, function in self.functions:
            tree = self.trees[path]
            taken = {alias.name for node in tree.body if isinstance(node, ast.ImportFrom) for alias in node.names}
            taken |= {node.name for node in tree.body if isinstance(node, (ast.ClassDef, ast.FunctionDef))}
            taken |= set(dir(builtins)) | BARRED_NAMES
            with self.subTest(path.name, function=function.name):
                self.assertEqual(set(bound_names(function)) & taken, set())
                self.assertNotIn(function.name, BARRED_NAMES)

    def test_builtins_and_methods(self):
        methods = METHODS | own_methods(self.trees)
        for path, tree in self.trees.items():
            for node in ast.walk(tree):
                with self.subTest(path.name, line=getattr(node, "lineno", None)):
                    self.assertNotIsInstance(node, BARRED_NODES)
                    if isinstance(node, ast.Name) and node.id in dir(builtins):
                        self.assertIn(node.id, BUILTINS)
                    if isinstance(node, ast.Call) and isinstance(node.func, ast.Attribute):
                        self.assertIn(node.func.attr, methods)
                        self.assertNotEqual(node.func.attr, "sort")
                    if isinstance(node, ast.Call) and isinstance(node.func, ast.Name) and node.func.id in TAKE_LISTS:
                        self.assertFalse(any(isinstance(given, ast.GeneratorExp) for given in node.args))

    def test_what_stands_beside_is(self):
        for path, tree in self.trees.items():
            for node in ast.walk(tree):
                if isinstance(node, ast.Compare) and isinstance(node.ops[0], (ast.Is, ast.IsNot)):
                    with self.subTest(path.name, line=node.lineno):
                        self.assertIsInstance(node.comparators[0], ast.Constant)

    def test_strings_and_words(self):
        for path, tree in self.trees.items():
            for node in ast.walk(tree):
                words = []
                if isinstance(node, ast.Name):
                    words = [node.id]
                elif isinstance(node, ast.Attribute):
                    words = [node.attr]
                elif isinstance(node, ast.Constant) and isinstance(node.value, str):
                    words = node.value.split()
                    self.assertNotIn("%", node.value)
                with self.subTest(path.name, line=getattr(node, "lineno", None)):
                    self.assertEqual(set(words) & set(BARRED_WORDS), set())
