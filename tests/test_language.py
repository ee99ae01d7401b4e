"""The rules of LANGUAGE.md that a look at the files can judge, over every file of the package."""

import ast
import builtins
import os
import re
import unittest

FOLDER = os.path.join(os.path.dirname(os.path.abspath(__file__)), "..", "lastfaces")

BUILTINS = """
len range enumerate zip min max sum abs sorted reversed int str bool bytes list tuple dict set frozenset isinstance ord
repr any all divmod pow getattr hasattr setattr iter next map Exception ValueError TypeError KeyError IndexError
LookupError ZeroDivisionError ArithmeticError OverflowError RuntimeError NotImplementedError AttributeError
StopIteration NotImplemented
""".split()

METHODS = """
append clear copy count endswith extend find get index insert isalnum isalpha isdigit islower isspace isupper items join
keys ljust lower lstrip partition pop remove replace reverse rfind rjust rpartition rsplit rstrip setdefault split
splitlines startswith strip update upper values zfill bit_length add discard
""".split()

BARRED_NODES = (
    ast.Global, ast.AsyncFunctionDef, ast.AsyncFor, ast.AsyncWith, ast.Await, ast.GeneratorExp, ast.Div, ast.MatMult,
    ast.Import,
)

BARRED_NAMES = """
register mro elements open input law version_info with_traceback add_note attrgetter breakpoint compile copyright
credits delattr dir eval exec exit gc globals help id importlib license locals methodcaller os quit type vars sys
""".split()

BARRED_WORDS = r"""\b(typing|typing_extensions|type|enum|Enum|IntEnum|StrEnum|Flag|IntFlag|Generic|Protocol|ABC|ABCMeta
|namedtuple|NamedTuple|TypedDict|TYPE_CHECKING|abstractmethod|_wall|_WallAttr)\b|dataclass|overload|contextmanager"""

OPERATORS = ["__init__", "__eq__", "__repr__", "__str__", "__len__", "__enter__", "__exit__", "__call__", "__iter__"]

VIEWS = ["zip", "enumerate", "reversed", "range", "items", "keys", "values"]
GOING_OVER = ["list", "tuple", "dict", "sorted", "sum", "any", "all", "enumerate", "zip", "min", "max", "reversed"]

LIBRARY = {"heapq", "math", "itertools", "collections"}


def files():
    """The pairs (name, text) of the package's files."""
    told = []
    for name in sorted(os.listdir(FOLDER)):
        if name != "__pycache__":
            with open(os.path.join(FOLDER, name), encoding="utf-8") as file:
                told.append((name, file.read()))
    return told


def functions(tree):
    return [node for node in ast.walk(tree) if isinstance(node, ast.FunctionDef)]


def bound_names(tree):
    """The names of functions, classes, parameters and variables."""
    for node in ast.walk(tree):
        if isinstance(node, (ast.FunctionDef, ast.ClassDef)):
            yield node.name
        if isinstance(node, ast.arg):
            yield node.arg
        if isinstance(node, ast.Name) and isinstance(node.ctx, ast.Store):
            yield node.id


def local_names(tree):
    """The names of parameters and local variables."""
    for function in functions(tree):
        for node in ast.walk(function):
            if isinstance(node, ast.arg):
                yield node.arg
            if isinstance(node, ast.Name) and isinstance(node.ctx, ast.Store):
                yield node.id


def called(call):
    """The name of the function or method that is called."""
    return call.func.id if isinstance(call.func, ast.Name) else getattr(call.func, "attr", None)


def imports(tree):
    """The pairs (module, names) that a file imports from."""
    return [(node.module, [alias.name for alias in node.names]) for node in ast.walk(tree)
            if isinstance(node, ast.ImportFrom)]


class TestLanguage(unittest.TestCase):
    def each(self):
        return [(name, text, ast.parse(text)) for name, text in files()]

    def test_files(self):
        self.assertLessEqual(len(files()), 100)
        for name, text, _ in self.each():
            self.assertRegex(name, r"^[a-z_][a-z0-9_]*\.py$")
            self.assertTrue(all(sign == "\n" or " " <= sign <= "~" for sign in text))
            self.assertLessEqual(len(text.split("\n")), 400)
            self.assertLessEqual(max(len(line) for line in text.split("\n")), 120)

    def test_sizes_of_functions(self):
        for _, _, tree in self.each():
            for function in functions(tree):
                self.assertLessEqual(function.end_lineno - function.lineno + 1, 40, function.name)
                self.assertEqual(function.decorator_list, [])

    def test_module_level(self):
        for _, _, tree in self.each():
            for node in tree.body:
                self.assertIsInstance(node, (ast.Expr, ast.ImportFrom, ast.FunctionDef, ast.ClassDef, ast.Assign))
                if isinstance(node, ast.Expr):
                    self.assertIs(node, tree.body[0])
                    self.assertIsInstance(node.value.value, str)
            names = [node.name for node in tree.body if isinstance(node, (ast.FunctionDef, ast.ClassDef))]
            names += [alias for _, told in imports(tree) for alias in told]
            names += [node.targets[0].id for node in tree.body if isinstance(node, ast.Assign)]
            self.assertEqual(len(names), len(set(names)))

    def test_nodes(self):
        for _, _, tree in self.each():
            for node in ast.walk(tree):
                self.assertNotIsInstance(node, BARRED_NODES, getattr(node, "lineno", None))
                if isinstance(node, ast.Constant):
                    self.assertNotIsInstance(node.value, (float, complex))
                if isinstance(node, ast.Constant) and isinstance(node.value, str):
                    self.assertNotIn("%", node.value)
                if isinstance(node, (ast.Is, ast.IsNot)):
                    continue
                if isinstance(node, ast.Compare) and isinstance(node.ops[0], (ast.Is, ast.IsNot)):
                    self.assertIsInstance(node.comparators[0], ast.Constant, node.lineno)
                if isinstance(node, ast.FunctionDef) and node.name.startswith("__"):
                    self.assertIn(node.name, OPERATORS)

    def test_init_returns_nothing(self):
        for _, _, tree in self.each():
            for function in functions(tree):
                if function.name == "__init__":
                    for node in ast.walk(function):
                        self.assertNotIsInstance(node, (ast.Return, ast.Lambda))

    def test_imports(self):
        trees = {"lastfaces." + name[:-3]: ast.parse(text) for name, text in files()}
        ahead = {}
        for module, tree in trees.items():
            ahead[module] = []
            for source, names in imports(tree):
                if source in LIBRARY:
                    continue
                ahead[module].append(source)
                defined = [node.name for node in trees[source].body if isinstance(node, (ast.FunctionDef, ast.ClassDef))]
                defined += [node.targets[0].id for node in trees[source].body if isinstance(node, ast.Assign)]
                self.assertLessEqual(set(names), set(defined), module)
        done = set()
        while len(done) < len(ahead):
            free = {module for module in ahead if module not in done and set(ahead[module]) <= done}
            self.assertTrue(free, "files that import from each other")
            done |= free

    def test_imports_are_used(self):
        for _, _, tree in self.each():
            read = {node.id for node in ast.walk(tree) if isinstance(node, ast.Name)}
            for _, names in imports(tree):
                self.assertLessEqual(set(names), read)

    def test_names(self):
        for _, text, tree in self.each():
            for name in bound_names(tree):
                self.assertNotIn(name, BARRED_NAMES)
                self.assertFalse(hasattr(builtins, name) and name not in OPERATORS, name)
            classes = [node.name for node in tree.body if isinstance(node, ast.ClassDef)]
            taken = set(classes + [alias for _, told in imports(tree) for alias in told])
            self.assertEqual(taken & set(local_names(tree)), set())
            self.assertIsNone(re.search(BARRED_WORDS, text, re.VERBOSE))

    def test_builtins_and_methods(self):
        own = {function.name for _, text in files() for function in functions(ast.parse(text))}
        for _, _, tree in self.each():
            for node in ast.walk(tree):
                if isinstance(node, ast.Name) and isinstance(node.ctx, ast.Load) and hasattr(builtins, node.id):
                    self.assertIn(node.id, BUILTINS, node.lineno)
                if isinstance(node, ast.Call) and isinstance(node.func, ast.Attribute):
                    self.assertIn(node.func.attr, METHODS + sorted(own), node.lineno)
                if isinstance(node, ast.Raise) and node.exc is not None:
                    self.assertIsInstance(node.exc, ast.Call, node.lineno)

    def test_stars_in_calls(self):
        plainly = (ast.Name, ast.Attribute, ast.Constant, ast.List, ast.Tuple, ast.Dict)
        for name, _, tree in self.each():
            for node in ast.walk(tree):
                if isinstance(node, ast.Call) and any(isinstance(part, ast.Starred) for part in node.args):
                    self.assertFalse(node.keywords, (name, node.lineno))
                    starred = False
                    for part in node.args:
                        starred = starred or isinstance(part, ast.Starred)
                        told = part.value if isinstance(part, ast.Starred) else part
                        self.assertTrue(not starred or isinstance(told, plainly), (name, node.lineno))

    def test_products(self):
        for name, _, tree in self.each():
            for node in ast.walk(tree):
                if isinstance(node, ast.Call) and called(node) in ("combinations", "permutations", "product"):
                    self.assertTrue(all(isinstance(part, (ast.Name, ast.Constant)) for part in node.args), name)

    def test_iterated_at_once(self):
        for name, _, tree in self.each():
            above = {inner: node for node in ast.walk(tree) for inner in ast.iter_child_nodes(node)}
            for node in ast.walk(tree):
                if isinstance(node, ast.Set):
                    self.assertFalse(any(isinstance(part, ast.Starred) for part in node.elts), (name, node.lineno))
                if isinstance(node, ast.Call) and called(node) in VIEWS:
                    holder = above[node]
                    if isinstance(holder, (ast.For, ast.comprehension)):
                        self.assertIs(holder.iter, node, (name, node.lineno))
                    elif isinstance(holder, ast.Call):
                        self.assertIn(called(holder), GOING_OVER, (name, node.lineno))
                        self.assertIs(holder.args[0], node, (name, node.lineno))
                    else:
                        self.assertIsInstance(holder, ast.Assign, (name, node.lineno))
                        self.assertEqual(called(node), "range", (name, node.lineno))

    def test_one_method_or_attribute_for_a_name(self):
        for _, _, tree in self.each():
            for node in ast.walk(tree):
                if isinstance(node, ast.ClassDef):
                    methods = [function.name for function in functions(node)]
                    stored = {part.attr for part in ast.walk(node)
                              if isinstance(part, ast.Attribute) and isinstance(part.ctx, ast.Store)}
                    self.assertEqual(len(methods), len(set(methods)))
                    self.assertEqual(stored & set(methods), set())
                    self.assertFalse(set(methods) & {"add", "discard"})


if __name__ == "__main__":
    unittest.main()
