"""The package keeps to ../shared/LANGUAGE.md, as far as its text alone shows it."""

import ast
import builtins
import re
import unittest
from pathlib import Path

PACKAGE = Path(__file__).resolve().parent.parent / "oncecrossed"
FILES = sorted(PACKAGE.rglob("*.py"))

BUILTINS = set("""len range enumerate zip min max sum abs sorted reversed int str bool bytes list tuple dict set frozenset
    isinstance ord repr any all divmod pow getattr hasattr setattr super iter next Exception ValueError TypeError KeyError
    IndexError LookupError ZeroDivisionError ArithmeticError OverflowError RuntimeError NotImplementedError
    AttributeError StopIteration NotImplemented""".split())
METHODS = set("""append clear copy count endswith extend find get index insert isalnum isalpha isdigit islower isspace
    isupper items join keys ljust lower lstrip partition pop remove replace reverse rfind rjust rpartition rsplit rstrip
    setdefault split splitlines startswith strip update upper values zfill bit_length add discard __init__""".split())
LIBRARY = {"heapq": "heappush heappop heapify heapreplace heappushpop", "math": "gcd lcm isqrt comb perm factorial",
           "itertools": "product combinations permutations", "collections": "defaultdict"}
BARRED = set("""register mro elements open input law version_info with_traceback add_note type vars dir eval exec exit
    help id globals locals compile delattr quit os gc""".split())
WORDS = set("""typing typing_extensions enum Enum IntEnum StrEnum Flag IntFlag Generic Protocol ABC ABCMeta namedtuple
    NamedTuple TypedDict TYPE_CHECKING abstractmethod dataclass overload contextmanager""".split())
STATEMENTS = (ast.Assign, ast.AugAssign, ast.If, ast.While, ast.For, ast.Return, ast.Break, ast.Continue, ast.Pass,
              ast.Raise, ast.Assert, ast.Delete, ast.Expr, ast.Try, ast.FunctionDef, ast.ClassDef, ast.ImportFrom)
BARRED_NODES = (ast.GeneratorExp, ast.Div, ast.Yield, ast.YieldFrom, ast.Await, ast.Lambda, ast.NamedExpr, ast.Set,
                ast.SetComp, ast.Starred, ast.Global, ast.Nonlocal, ast.MatMult)


def module_of(path):
    """The full name of a file's module."""
    return ".".join(path.relative_to(PACKAGE.parent).with_suffix("").parts)


def defined_in(tree):
    """What a file defines at its module level."""
    names = [node.name for node in tree.body if isinstance(node, (ast.FunctionDef, ast.ClassDef))]
    return names + [node.targets[0].id for node in tree.body if isinstance(node, ast.Assign)]


TREES = {module_of(path): ast.parse(path.read_text("utf-8")) for path in FILES}
OWN_METHODS = {part.name for tree in TREES.values() for node in ast.walk(tree) if isinstance(node, ast.ClassDef)
               for part in node.body if isinstance(part, ast.FunctionDef)}


class TestFiles(unittest.TestCase):
    def test_folder(self):
        for path in PACKAGE.rglob("*"):
            if path.name != "__pycache__" and path.parent.name != "__pycache__":
                self.assertTrue(path.is_dir() or re.fullmatch("[a-z0-9_]+[.]py", path.name), path)
        self.assertTrue((PACKAGE / "__init__.py").is_file())

    def test_characters_and_sizes(self):
        for path in FILES:
            lines = path.read_text("utf-8").split("\n")
            self.assertLessEqual(len(lines) - 1, 399, path)
            for line in lines:
                self.assertLessEqual(len(line), 120, (path, line))
                self.assertTrue(re.fullmatch("[ -~]*", line), (path, line))
                self.assertFalse(line.endswith(" "), (path, line))

    def test_words(self):
        for path in FILES:
            words = set(re.findall("[A-Za-z0-9_]+", path.read_text("utf-8")))
            self.assertFalse(words & WORDS, path)
            self.assertFalse([word for word in words if word.startswith(("_wall", "_pe_", "_dcw_", "_enum_"))], path)


class TestTrees(unittest.TestCase):
    def nodes(self, *kinds):
        for name, tree in TREES.items():
            for node in ast.walk(tree):
                if isinstance(node, kinds):
                    yield (name, getattr(node, "lineno", 0)), node

    def test_module_level(self):
        for name, tree in TREES.items():
            for node in tree.body:
                place = (name, node.lineno)
                self.assertIsInstance(node, (ast.Expr, ast.ImportFrom, ast.FunctionDef, ast.ClassDef, ast.Assign), place)
                if isinstance(node, ast.Expr):
                    self.assertIsInstance(node.value, ast.Constant, place)
                if isinstance(node, ast.Assign):
                    self.assertEqual(len(node.targets), 1, place)
                    self.check_plain(tree, node)
            names = defined_in(tree)
            self.assertEqual(len(names), len(set(names)), name)

    def check_plain(self, tree, node):
        """A value at module level is plain, or a dict of functions that are defined above."""
        above = [part.name for part in tree.body if isinstance(part, ast.FunctionDef) and part.lineno < node.lineno]
        if isinstance(node.value, ast.Dict) and all([isinstance(part, ast.Name) for part in node.value.values]):
            self.assertLessEqual({part.id for part in node.value.values}, set(above), node.lineno)
        else:
            ast.literal_eval(node.value)

    def test_imports(self):
        links = {}
        for name, tree in TREES.items():
            links[name] = []
            for node in ast.walk(tree):
                self.assertNotIsInstance(node, ast.Import, name)
                if isinstance(node, ast.ImportFrom):
                    self.assertIn(node, tree.body, name)
                    self.assertEqual(node.level, 0, name)
                    names = [alias.name for alias in node.names]
                    if node.module in LIBRARY:
                        self.assertLessEqual(set(names), set(LIBRARY[node.module].split()), name)
                    else:
                        self.assertLessEqual(set(names), set(defined_in(TREES[node.module])), name)
                        links[name].append(node.module)
                    self.assertFalse([alias for alias in node.names if alias.asname], name)
        while links:
            free = [name for name in links if not set(links[name]) & set(links)]
            self.assertTrue(free, "files import from each other")
            links = {name: links[name] for name in links if name not in free}

    def test_functions(self):
        for place, node in self.nodes(ast.FunctionDef):
            self.assertLessEqual(node.end_lineno - node.lineno + 1, 40, place)
            self.assertEqual(node.decorator_list, [], place)
            for value in node.args.defaults:
                ast.literal_eval(value)

    def test_statements(self):
        for place, node in self.nodes(ast.stmt):
            self.assertIsInstance(node, STATEMENTS, place)
        for place, node in self.nodes(ast.AST):
            self.assertNotIsInstance(node, BARRED_NODES, place)
        for place, node in self.nodes(ast.FormattedValue):
            self.assertEqual((node.format_spec, node.conversion), (None, -1), place)
        for place, node in self.nodes(ast.Constant):
            self.assertIsInstance(node.value, (int, str, bool, type(None)), place)
            self.assertFalse(isinstance(node.value, str) and "%" in node.value, place)

    def test_is(self):
        for place, node in self.nodes(ast.Compare):
            for sign, side in zip(node.ops, node.comparators):
                if isinstance(sign, (ast.Is, ast.IsNot)):
                    self.assertIsInstance(side, ast.Constant, place)
                    self.assertTrue(side.value is None or isinstance(side.value, bool), place)

    def test_names(self):
        everything = set(dir(builtins))
        for place, node in self.nodes(ast.Name, ast.arg, ast.Attribute, ast.FunctionDef, ast.ClassDef):
            name = [getattr(node, word) for word in ("id", "arg", "attr", "name") if hasattr(node, word)][0]
            self.assertNotIn(name, BARRED, place)
            self.assertFalse(name.startswith("__") and name not in ("__init__", "__eq__", "__str__"), (place, name))
            bound = not isinstance(node, ast.Attribute) and not isinstance(getattr(node, "ctx", None), ast.Load)
            if bound:
                self.assertNotIn(name, everything, place)
            elif isinstance(node, ast.Name) and name in everything:
                self.assertIn(name, BUILTINS, place)

    def test_imported_names_are_not_bound_again(self):
        for name, tree in TREES.items():
            taken = [alias.name for node in tree.body if isinstance(node, ast.ImportFrom) for alias in node.names]
            taken += [node.name for node in tree.body if isinstance(node, ast.ClassDef)]
            for node in ast.walk(tree):
                if isinstance(node, ast.arg):
                    self.assertNotIn(node.arg, taken, (name, node.lineno))
                if isinstance(node, ast.Name) and isinstance(node.ctx, ast.Store):
                    self.assertNotIn(node.id, taken, (name, node.lineno))

    def test_methods(self):
        for place, node in self.nodes(ast.Call):
            if isinstance(node.func, ast.Attribute):
                self.assertIn(node.func.attr, METHODS | OWN_METHODS, place)

    def test_sets_are_read_at_once(self):
        for name, tree in TREES.items():
            inside = [part for node in ast.walk(tree) if isinstance(node, ast.Call) and isinstance(node.func, ast.Name)
                      and node.func.id in ("sorted", "len") and not node.keywords for part in node.args]
            for node in ast.walk(tree):
                if isinstance(node, ast.Call) and isinstance(node.func, ast.Name) and node.func.id == "set":
                    self.assertIn(node, inside, (name, node.lineno))

    def test_views_are_iterated_at_once(self):
        takers = ("list", "tuple", "dict", "sorted", "sum", "any", "all", "enumerate", "zip", "len", "min", "max",
                  "combinations", "product", "permutations")
        for name, tree in TREES.items():
            inside = [node.iter for node in ast.walk(tree) if isinstance(node, (ast.For, ast.comprehension))]
            inside += [part for node in ast.walk(tree) if isinstance(node, ast.Call) and isinstance(node.func, ast.Name)
                       and node.func.id in takers for part in node.args[:1]]
            for node in ast.walk(tree):
                if isinstance(node, ast.Call) and isinstance(node.func, ast.Name):
                    if node.func.id in ("zip", "enumerate", "reversed", "range", "combinations", "product", "permutations"):
                        self.assertIn(node, inside, (name, node.lineno))


if __name__ == "__main__":
    unittest.main()
