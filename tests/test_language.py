"""The rules of the language subset that are quick to check: files, sizes, imports, names."""

import ast
import builtins
import os
import unittest

FOLDER = os.path.join(os.path.dirname(os.path.dirname(os.path.abspath(__file__))), "foldsame")
LIBRARY = {
    "heapq": {"heappush", "heappop", "heapify", "heapreplace", "heappushpop"},
    "math": {"gcd", "lcm", "isqrt", "comb", "perm", "factorial"},
    "itertools": {"product", "combinations", "permutations"},
}
BUILTINS = set("""
    len range enumerate zip min max sum abs sorted reversed int str bool bytes list tuple dict set frozenset isinstance
    ord repr any all divmod iter next map super property staticmethod classmethod object float Exception ValueError
    TypeError KeyError IndexError LookupError ZeroDivisionError ArithmeticError OverflowError RuntimeError
    NotImplementedError AttributeError StopIteration NotImplemented
""".split())
DECORATORS = {"property", "setter", "staticmethod", "classmethod"}
BARRED = set("""
    register mro elements open input law version_info with_traceback add_note f_back f_code f_globals f_locals tb_next
    tb_frame co_names co_code attrgetter breakpoint builtins compile copyright credits delattr dir eval exec exit gc
    getattr globals hasattr help id importlib license locals methodcaller os quit setattr type vars sys format
""".split())


def package_files():
    """The path and text of each file of the package."""
    found = []
    for folder, folders, names in sorted(os.walk(FOLDER)):
        folders[:] = [name for name in folders if name != "__pycache__"]
        for name in sorted(names):
            path = os.path.join(folder, name)
            with open(path, encoding="utf-8", newline="") as file:
                found.append((path, file.read()))
    return found


class Language(unittest.TestCase):

    def setUp(self):
        self.files = package_files()
        self.trees = [(path, ast.parse(text)) for path, text in self.files]

    def nodes(self, *kinds):
        for path, tree in self.trees:
            for node in ast.walk(tree):
                if isinstance(node, kinds):
                    yield f"{path}:{getattr(node, 'lineno', 0)}", node

    def test_files(self):
        self.assertIn(os.path.join(FOLDER, "__init__.py"), [path for path, _ in self.files])
        for path, text in self.files:
            self.assertRegex(os.path.basename(path), r"\A[a-z0-9_]+\.py\Z")
            self.assertTrue(set(text) <= {"\n"} | {chr(k) for k in range(32, 127)}, path)
            self.assertLessEqual(len(text.split("\n")), 400, path)
            self.assertLessEqual(max([len(line) for line in text.split("\n")]), 120, path)

    def test_functions_are_small(self):
        for place, node in self.nodes(ast.FunctionDef):
            self.assertLessEqual(node.end_lineno - node.lineno + 1, 40, place)

    def test_imports(self):
        self.assertEqual(list(self.nodes(ast.Import)), [])
        for place, node in self.nodes(ast.ImportFrom):
            self.assertEqual(node.level, 0, place)
            if node.module in LIBRARY:
                self.assertTrue({name.name for name in node.names} <= LIBRARY[node.module], place)
            else:
                self.assertTrue(node.module.startswith("foldsame."), place)
                self.assertNotIn("*", [name.name for name in node.names], place)

    def test_no_two_files_import_from_each_other(self):
        ahead = {}
        for path, tree in self.trees:
            name = "foldsame." + os.path.basename(path)[:-len(".py")]
            ahead[name] = {node.module for node in ast.walk(tree) if isinstance(node, ast.ImportFrom)}
        done = set()
        while len(done) < len(ahead):
            ready = {name for name in ahead if name not in done and ahead[name] & set(ahead) <= done}
            self.assertNotEqual(ready, set(), sorted(set(ahead) - done))
            done |= ready

    def test_names_of_imports_and_classes_mean_nothing_else(self):
        for path, tree in self.trees:
            imported = {name.name for node in ast.walk(tree) if isinstance(node, ast.ImportFrom) for name in node.names}
            classes = {node.name for node in ast.walk(tree) if isinstance(node, ast.ClassDef)}
            own = {node.arg for node in ast.walk(tree) if isinstance(node, ast.arg)}
            own |= {node.id for node in ast.walk(tree) if isinstance(node, ast.Name) and isinstance(node.ctx, ast.Store)}
            self.assertEqual(own & (imported | classes), set(), path)
            used = {node.id for node in ast.walk(tree) if isinstance(node, ast.Name) and isinstance(node.ctx, ast.Load)}
            self.assertEqual(imported - used, set(), path)

    def test_barred_names(self):
        for place, node in self.nodes(ast.Name, ast.arg, ast.Attribute, ast.FunctionDef, ast.ClassDef, ast.keyword):
            for field in ("id", "arg", "attr", "name"):
                self.assertNotIn(getattr(node, field, None), BARRED, place)

    def test_generators_have_names_of_their_own(self):
        functions = [node for _, node in self.nodes(ast.FunctionDef)]
        generators = {node.name for node in functions if [part for part in ast.walk(node) if isinstance(part, ast.Yield)]}
        self.assertEqual(generators & {"records", "foldings"}, generators)
        names = [node.name for node in functions if node.name in generators]
        self.assertEqual(len(names), len(generators))
        called = {id(node.func) for _, node in self.nodes(ast.Call)}
        for place, node in self.nodes(ast.Name):
            if node.id in generators:
                self.assertIn(id(node), called, place)

    def test_builtins(self):
        # A doctest leaves `_` behind.
        barred = set(dir(builtins)) - BUILTINS - {"_"}
        for place, node in self.nodes(ast.Name):
            self.assertNotIn(node.id, barred, place)

    def test_stars_in_calls(self):
        for place, node in self.nodes(ast.Call):
            starred = [given for given in node.args if isinstance(given, ast.Starred)]
            for given in node.args if starred else []:
                value = given.value if isinstance(given, ast.Starred) else given
                plain = isinstance(value, (ast.Name, ast.Constant))
                self.assertTrue(plain or isinstance(value, ast.Attribute) and isinstance(value.value, ast.Name), place)

    def test_is(self):
        for place, node in self.nodes(ast.Compare):
            for sign, right in zip(node.ops, node.comparators):
                if isinstance(sign, (ast.Is, ast.IsNot)):
                    self.assertIsInstance(right, ast.Constant, place)

    def test_no_generator_expressions_and_names_for_methods_alone(self):
        # Beside classes with __eq__ they are hardly allowed anywhere.
        self.assertEqual([place for place, _ in self.nodes(ast.GeneratorExp, ast.SetComp)], [])
        methods, stored = {}, {}
        for _, tree in self.trees:
            for made in [node for node in ast.walk(tree) if isinstance(node, ast.ClassDef)]:
                methods.update({part.name: made.name for part in made.body if isinstance(part, ast.FunctionDef)})
                stored.update({part.attr: made.name for part in ast.walk(made)
                               if isinstance(part, ast.Attribute) and isinstance(part.ctx, ast.Store)})
        self.assertEqual(set(methods) & set(stored), set())

    def test_statements(self):
        barred = (ast.Global, ast.AsyncFunctionDef, ast.AsyncFor, ast.AsyncWith, ast.Await, ast.Div)
        self.assertEqual([place for place, _ in self.nodes(*barred)], [])
        for place, node in self.nodes(ast.ExceptHandler):
            self.assertIsNotNone(node.type, place)
        for place, node in self.nodes(ast.Constant):
            self.assertNotIsInstance(node.value, (float, complex), place)
        for place, node in self.nodes(ast.FunctionDef, ast.ClassDef):
            for mark in node.decorator_list:
                self.assertIn(mark.attr if isinstance(mark, ast.Attribute) else mark.id, DECORATORS, place)

    def test_module_level(self):
        allowed = (ast.Import, ast.ImportFrom, ast.FunctionDef, ast.ClassDef, ast.Assign, ast.AnnAssign, ast.Expr)
        for path, tree in self.trees:
            if os.path.basename(path) != "__main__.py":
                for node in tree.body:
                    self.assertIsInstance(node, allowed, path)
                    if isinstance(node, ast.Expr):
                        self.assertIsInstance(node.value, ast.Constant, path)


if __name__ == "__main__":
    unittest.main()
