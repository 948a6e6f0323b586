"""The rules of the language that can be seen in the code: sizes, signs, imports, names.

They are a part of the rules only; what is not looked for here is to be kept all the same.
"""

import ast
import builtins
import os
import re
import unittest
import warnings

import bothwheels

FOLDER = os.path.dirname(os.path.abspath(bothwheels.__file__))
FILES = sorted([name for name in os.listdir(FOLDER) if name != "__pycache__"])

LIBRARY = {
    "heapq": {"heappush", "heappop", "heapify", "heapreplace", "heappushpop"},
    "math": {"gcd", "lcm", "isqrt", "comb", "perm", "factorial"},
    "itertools": {"product", "combinations", "permutations", "chain", "accumulate", "pairwise", "islice", "zip_longest"},
    "collections": {"defaultdict"},
}

BUILTINS = set(
    "len range enumerate zip min max sum abs sorted reversed int str bool list tuple dict set isinstance ord repr any all"
    " divmod pow iter next map Exception ValueError TypeError KeyError IndexError LookupError ZeroDivisionError"
    " ArithmeticError OverflowError RuntimeError NotImplementedError AttributeError StopIteration NotImplemented".split()
)

BARRED = set(
    "register mro elements open input law version_info with_traceback add_note attrgetter breakpoint builtins compile"
    " copyright credits delattr dir eval exec exit gc globals help id importlib license locals methodcaller os quit"
    " super type vars sys".split()
)

# A doctest that ran ahead leaves "_" among the builtins.
BUILT_IN = set(vars(builtins)) - {"_"}

NODES_BARRED = (
    ast.Import, ast.Global, ast.AsyncFunctionDef, ast.AsyncFor, ast.AsyncWith, ast.Await, ast.Div, ast.MatMult,
    ast.TryStar,
)


def read(name):
    with open(os.path.join(FOLDER, name), encoding="utf-8") as file:
        return file.read()


TEXTS = {name: read(name) for name in FILES if name.endswith(".py")}
TREES = {name: ast.parse(text) for name, text in TEXTS.items()}


def walked(kinds):
    """All (file, node) of these kinds."""
    return [(name, node) for name, tree in TREES.items() for node in ast.walk(tree) if isinstance(node, kinds)]


def at_top(name):
    """The names that a file binds at module level, but for its imports."""
    found = []
    for node in TREES[name].body:
        if isinstance(node, (ast.FunctionDef, ast.ClassDef)):
            found.append(node.name)
        elif isinstance(node, ast.Assign):
            found += [target.id for target in node.targets]
    return found


def imports(name):
    """The pairs (module, name) that a file imports."""
    rows = [node for node in TREES[name].body if isinstance(node, ast.ImportFrom)]
    return [(row.module, alias.name) for row in rows for alias in row.names]


def bound(function):
    """Parameters and local names of a function."""
    names = [node.arg for node in ast.walk(function) if isinstance(node, ast.arg)]
    return names + [node.id for node in ast.walk(function) if isinstance(node, ast.Name) and isinstance(node.ctx, ast.Store)]


class Files(unittest.TestCase):
    def test_only_python_files(self):
        self.assertIn("__init__.py", FILES)
        for name in FILES:
            self.assertRegex(name, r"^[a-z0-9_]+\.py$")

    def test_sizes_and_signs(self):
        for name, text in TEXTS.items():
            rows = text.split("\n")
            with self.subTest(name=name):
                self.assertLessEqual(len(rows), 400)
                self.assertLessEqual(max([len(row) for row in rows]), 120)
                self.assertEqual([sign for sign in text if not (" " <= sign <= "~" or sign == "\n")], [])
                self.assertTrue(text.endswith("\n"))

    def test_functions_are_short(self):
        for name, node in walked(ast.FunctionDef):
            self.assertLessEqual(node.end_lineno - node.lineno + 1, 40, (name, node.name))

    def test_no_warnings(self):
        with warnings.catch_warnings():
            warnings.simplefilter("error")
            for name, text in TEXTS.items():
                compile(text, name, "exec")


class Imports(unittest.TestCase):
    def test_where_from(self):
        for name, node in walked(ast.ImportFrom):
            with self.subTest(file=name, module=node.module):
                self.assertEqual(node.level, 0)
                self.assertEqual([alias.asname for alias in node.names], [None] * len(node.names))
                if node.module in LIBRARY:
                    self.assertLessEqual({alias.name for alias in node.names}, LIBRARY[node.module])
                    continue
                package, module = node.module.split(".")
                self.assertEqual(package, "bothwheels")
                for alias in node.names:
                    self.assertIn(alias.name, at_top(module + ".py"))
                    self.assertFalse(alias.name.startswith("_"))

    def test_no_circles(self):
        needs = {name: {module.split(".")[-1] + ".py" for module, own in imports(name)} & set(TREES) for name in TREES}
        while needs:
            free = [name for name in needs if not needs[name] & set(needs)]
            self.assertTrue(free, needs)
            needs = {name: needs[name] for name in needs if name not in free}

    def test_each_import_is_used(self):
        for name in TREES:
            used = {node.id for node in ast.walk(TREES[name]) if isinstance(node, ast.Name)}
            self.assertEqual([own for module, own in imports(name) if own not in used], [], name)


class Names(unittest.TestCase):
    def test_bound_once(self):
        for name in TREES:
            names = at_top(name) + [own for module, own in imports(name)]
            self.assertEqual(len(names), len(set(names)), name)

    def test_only_some_builtins(self):
        for name, node in walked(ast.Name):
            if node.id in BUILT_IN and node.id not in at_top(name):
                self.assertIn(node.id, BUILTINS, (name, node.lineno))

    def test_no_builtin_has_another_meaning(self):
        for name, node in walked((ast.FunctionDef, ast.Lambda)):
            own = bound(node) + ([node.name] if isinstance(node, ast.FunctionDef) else [])
            self.assertEqual([word for word in own if word in BUILT_IN or word in BARRED], [], name)
        for name in TREES:
            self.assertEqual([word for word in at_top(name) if word in BUILT_IN or word in BARRED], [], name)

    def test_no_local_has_the_name_of_an_import_or_a_class(self):
        for name, node in walked(ast.FunctionDef):
            taken = {own for module, own in imports(name)}
            taken |= {own.name for own in TREES[name].body if isinstance(own, ast.ClassDef)}
            self.assertEqual(sorted(taken & set(bound(node))), [], (name, node.name))

    def test_underscore_alone_is_never_read(self):
        for name, node in walked(ast.Name):
            if node.id == "_":
                self.assertIsInstance(node.ctx, ast.Store, (name, node.lineno))

    def test_two_underscores(self):
        for name, text in TEXTS.items():
            self.assertEqual(set(re.findall(r"\b__\w+", text)) - {"__init__", "__eq__"}, set(), name)


class Code(unittest.TestCase):
    def test_module_level(self):
        for name, tree in TREES.items():
            for place, node in enumerate(tree.body):
                kinds = (ast.ImportFrom, ast.FunctionDef, ast.ClassDef, ast.Assign)
                docstring = isinstance(node, ast.Expr) and place == 0
                self.assertTrue(docstring or isinstance(node, kinds), (name, node.lineno))
            self.assertIsNotNone(ast.get_docstring(tree), name)

    def test_what_is_not_used(self):
        self.assertEqual([(name, node.lineno) for name, node in walked(NODES_BARRED)], [])
        for name, tree in TREES.items():
            for node in tree.body:
                self.assertEqual(getattr(node, "decorator_list", []), [], (name, node.lineno))

    def test_no_stars_no_lambdas_no_generators(self):
        kinds = (ast.Starred, ast.Lambda, ast.Yield, ast.YieldFrom, ast.GeneratorExp, ast.Nonlocal, ast.With, ast.Match)
        self.assertEqual([(name, node.lineno) for name, node in walked(kinds)], [])

    def test_each_function_tells_what_it_is_for(self):
        for name, node in walked((ast.FunctionDef, ast.ClassDef)):
            if not node.name.startswith("__"):
                self.assertIsNotNone(ast.get_docstring(node), (name, node.name))

    def test_sets_are_sorted_or_measured_at_once(self):
        for name, tree in TREES.items():
            fine = [
                own for node in ast.walk(tree) if isinstance(node, ast.Call) and isinstance(node.func, ast.Name)
                and node.func.id in ("sorted", "len") for own in node.args
            ]
            for node in ast.walk(tree):
                if isinstance(node, (ast.Set, ast.SetComp)) or isinstance(node, ast.Call) and getattr(node.func, "id", "") == "set":
                    self.assertIn(node, fine, (name, node.lineno))

    def test_only_own_errors_are_caught(self):
        own = set(at_top("errors.py"))
        for name, node in walked(ast.ExceptHandler):
            self.assertIn(node.type.id, own, (name, node.lineno))

    def test_no_floats_and_no_barred_signs_in_strings(self):
        for name, node in walked(ast.Constant):
            self.assertNotIsInstance(node.value, (float, complex), (name, node.lineno))
            if isinstance(node.value, str):
                self.assertNotIn("%", node.value, (name, node.lineno))

    def test_lists_where_generators_would_stand(self):
        for name, node in walked(ast.Call):
            if isinstance(node.func, ast.Name) and node.func.id in ("any", "all", "sum", "sorted", "min", "max"):
                self.assertFalse([own for own in node.args if isinstance(own, ast.GeneratorExp)], (name, node.lineno))

    def test_no_python_error_is_caught_or_raised(self):
        for name, node in walked(ast.Raise):
            self.assertIsInstance(node.exc, ast.Call, (name, node.lineno))
            self.assertNotIn(node.exc.func.id, BUILT_IN, (name, node.lineno))
        for name, node in walked(ast.ExceptHandler):
            self.assertIsNotNone(node.type, (name, node.lineno))


if __name__ == "__main__":
    unittest.main()
