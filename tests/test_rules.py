"""The rules by which the files of the package are written, as far as a short test can tell."""

import ast
import builtins
import os
import unittest

import neatbooks

FOLDER = os.path.dirname(neatbooks.__file__)
LIBRARY = {
    "heapq": "heappush heappop heapify heapreplace heappushpop", "math": "gcd lcm isqrt comb perm factorial",
    "itertools": "product combinations permutations chain accumulate pairwise islice zip_longest",
    "collections": "defaultdict",
}
BUILTINS = (
    "len range enumerate zip min max sum abs sorted reversed int str bool list tuple dict set isinstance ord repr any"
    " all divmod pow iter next map Exception ValueError TypeError KeyError IndexError LookupError ZeroDivisionError"
    " ArithmeticError OverflowError RuntimeError NotImplementedError AttributeError StopIteration NotImplemented"
).split()
METHODS = (
    "append clear copy count endswith extend find get index insert isalnum isalpha isdigit islower isspace isupper"
    " items join keys ljust lower lstrip partition pop remove replace reverse rfind rjust rpartition rsplit rstrip"
    " setdefault split splitlines startswith strip update upper values zfill bit_length add discard"
).split()
WORDS = (
    "type typing typing_extensions enum Enum IntEnum StrEnum Flag IntFlag Generic Protocol ABC ABCMeta namedtuple"
    " NamedTuple TypedDict TYPE_CHECKING abstractmethod register mro elements open input law version_info"
    " with_traceback add_note attrgetter breakpoint builtins compile copyright credits delattr dir eval exec exit gc"
    " globals help id importlib license locals methodcaller os quit vars sys"
).split()
SPECIAL = "__init__ __eq__ __repr__ __str__ __len__".split()
BARRED = (
    ast.AsyncFunctionDef, ast.Global, ast.AnnAssign, ast.GeneratorExp, ast.Yield, ast.YieldFrom, ast.Await, ast.Match,
    ast.With, ast.NamedExpr, ast.Nonlocal, ast.Import,
)
OWN_METHODS = ("append", "clear", "extend", "insert", "pop", "remove", "reverse", "setdefault", "update")


def file_names():
    return sorted(name for name in os.listdir(FOLDER) if name != "__pycache__")


def trees():
    for name in file_names():
        with open(os.path.join(FOLDER, name), encoding="ascii") as file:
            text = file.read()
        yield name, text, ast.parse(text)


def builtin_method_names():
    return {name for kind in (str, bytes, int, list, tuple, dict, set) for name in dir(kind)}


class Rules(unittest.TestCase):
    def walk(self, *kinds):
        for name, _, tree in trees():
            for node in ast.walk(tree):
                if isinstance(node, kinds):
                    yield f"{name}:{node.lineno}", node

    def test_files(self):
        for name, text, _ in trees():
            self.assertRegex(name, r"\A[a-z_0-9]+\.py\Z")
            self.assertNotIn(name[:-3], dir(builtins))
            self.assertTrue(all(letter == "\n" or " " <= letter <= "~" for letter in text), name)
            rows = text.split("\n")
            self.assertLessEqual(len(rows) - 1, 399, name)
            self.assertLessEqual(max(len(row) for row in rows), 120, name)

    def test_module_level(self):
        for name, _, tree in trees():
            kinds = (ast.ImportFrom, ast.FunctionDef, ast.ClassDef, ast.Assign)
            for node in tree.body[1:]:
                self.assertIsInstance(node, kinds, name)
            self.assertIsNotNone(ast.get_docstring(tree), name)

    def test_each_name_is_imported_from_where_it_is_defined(self):
        graph = {}
        defined = {name: {getattr(node, "name", None) for node in tree.body} for name, _, tree in trees()}
        for name, _, tree in trees():
            for node in tree.body:
                if isinstance(node, ast.Assign):
                    defined[name] |= {target.id for target in node.targets}
        for where, node in self.walk(ast.ImportFrom):
            for alias in node.names:
                self.assertIsNone(alias.asname, where)
                if node.module in LIBRARY:
                    self.assertIn(alias.name, LIBRARY[node.module].split(), where)
                else:
                    self.assertRegex(node.module, r"\Aneatbooks\.[a-z_]+\Z")
                    self.assertIn(alias.name, defined[node.module[10:] + ".py"], where)
                    graph.setdefault(where.split(":")[0], set()).add(node.module[10:] + ".py")
        self.check_no_ring(graph)

    def check_no_ring(self, graph):
        left = dict(graph)
        while left:
            free = [name for name in left if not left[name] & set(left)]
            self.assertTrue(free, f"these import one another: {sorted(left)}")
            for name in free:
                del left[name]

    def test_functions(self):
        for where, node in self.walk(ast.FunctionDef):
            self.assertLessEqual(node.end_lineno - node.lineno + 1, 40, where)
            self.assertEqual(node.decorator_list, [], where)
            if node.name.startswith("__"):
                self.assertIn(node.name, SPECIAL, where)

    def test_barred_statements_and_expressions(self):
        for where, node in self.walk(*BARRED):
            self.fail(f"{where}: {type(node).__name__}")
        for where, node in self.walk(ast.BinOp, ast.AugAssign):
            self.assertNotIsInstance(node.op, ast.Div, where)

    def test_constants(self):
        for where, node in self.walk(ast.Constant):
            self.assertNotIsInstance(node.value, (float, complex), where)
            if isinstance(node.value, str):
                self.assertNotIn("%", node.value, where)
                self.assertFalse(node.value.startswith("__") or node.value.endswith("._"), where)

    def test_is_with_none_true_and_false_alone(self):
        for where, node in self.walk(ast.Compare):
            for op, right in zip(node.ops, node.comparators):
                if isinstance(op, (ast.Is, ast.IsNot)):
                    self.assertTrue(isinstance(right, ast.Constant), where)
                    self.assertIn(right.value, (None, True, False), where)

    def test_builtins(self):
        known = {name for name in dir(builtins) if not name.startswith("__")}
        for where, node in self.walk(ast.Name):
            if isinstance(node.ctx, ast.Load) and node.id in known:
                self.assertIn(node.id, BUILTINS, where)
        for where, name in self.bound_names():
            self.assertNotIn(name, known, where)
            self.assertNotIn(name, WORDS, where)
            self.assertNotRegex(name, r"\A__", where)

    def bound_names(self):
        for where, node in self.walk(ast.Name, ast.arg, ast.FunctionDef, ast.ClassDef, ast.alias):
            if isinstance(node, ast.Name) and not isinstance(node.ctx, ast.Load):
                yield where, node.id
            elif isinstance(node, ast.arg):
                yield where, node.arg
            elif isinstance(node, (ast.FunctionDef, ast.ClassDef, ast.alias)) and node.name not in SPECIAL:
                yield where, node.name

    def test_no_variable_has_the_name_of_a_class_or_an_import(self):
        for name, _, tree in trees():
            taken = {node.name for node in tree.body if isinstance(node, ast.ClassDef)}
            for node in tree.body:
                if isinstance(node, ast.ImportFrom):
                    taken |= {alias.name for alias in node.names}
            for node in ast.walk(tree):
                if isinstance(node, ast.Name) and not isinstance(node.ctx, ast.Load):
                    self.assertNotIn(node.id, taken, f"{name}:{node.lineno}")
                if isinstance(node, ast.arg):
                    self.assertNotIn(node.arg, taken, f"{name}:{node.lineno}")

    def test_methods_and_attributes(self):
        barred = builtin_method_names() - set(METHODS)
        methods, attributes = {}, {}
        for where, node in self.walk(ast.ClassDef):
            for part in node.body:
                if isinstance(part, ast.FunctionDef) and part.name not in SPECIAL:
                    methods[part.name] = where
        for where, node in self.walk(ast.Attribute):
            if node.attr != "__init__":
                self.assertNotIn(node.attr, barred, where)
            if isinstance(node.ctx, ast.Store):
                attributes[node.attr] = where
        for name in sorted(set(methods) & set(attributes)):
            self.fail(f"{methods[name]}, {attributes[name]}: {name} is a method and an attribute")
        for name in methods:
            self.assertNotIn(name, ("add", "discard") + OWN_METHODS, methods[name])

    def test_keywords_of_builtins(self):
        let = {"sorted": ("key", "reverse"), "min": ("key", "default"), "max": ("key", "default"), "sum": ("start",),
               "enumerate": ("start",), "zip": ("strict",)}
        for where, node in self.walk(ast.Call):
            words = [word.arg for word in node.keywords]
            if isinstance(node.func, ast.Name) and node.func.id in BUILTINS:
                self.assertLessEqual(set(words), set(let.get(node.func.id, ())), where)
            if isinstance(node.func, ast.Attribute) and node.func.attr in METHODS:
                self.assertEqual(words, [], where)
                if node.func.attr == "join":
                    self.assertIsInstance(node.func.value, ast.Constant, where)

    def test_sets_and_views_are_used_on_the_spot(self):
        for _, _, tree in trees():
            for node in ast.walk(tree):
                for inner in ast.iter_child_nodes(node):
                    self.check_on_the_spot(node, inner)

    def check_on_the_spot(self, node, inner):
        line = getattr(inner, "lineno", 0)
        if isinstance(inner, (ast.Set, ast.SetComp)) or called(inner) == "set":
            self.assertIn(called(node), ("sorted", "len"), line)
        if called(inner) in ("zip", "enumerate", "range", "reversed", "items", "keys", "values"):
            at_once = isinstance(node, (ast.For, ast.comprehension))
            let = "list tuple dict sorted sum any all enumerate zip min max"
            if called(inner) in ("range", "items"):
                let += " len"
            if called(inner) == "range":
                let += " reversed"
            self.assertTrue(at_once or called(node) in let.split(), line)

    def test_raise_and_except_name_error_classes(self):
        for where, node in self.walk(ast.Raise):
            self.assertTrue(node.exc is None or isinstance(node.exc, ast.Call), where)
        for where, node in self.walk(ast.ExceptHandler):
            self.assertIsNotNone(node.type, where)


def called(node):
    """The name of the function or method that is called, None for what is no call."""
    if not isinstance(node, ast.Call):
        return None
    return node.func.id if isinstance(node.func, ast.Name) else getattr(node.func, "attr", None)


if __name__ == "__main__":
    unittest.main()
