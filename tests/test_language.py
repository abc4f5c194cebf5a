"""The rules of ../shared/LANGUAGE.md that a look at the package's files can check."""

import ast
import builtins
import re
import unittest
import warnings

from interface import PACKAGE

FILES = sorted(PACKAGE.glob("*.py"))
TREES = {path.stem: ast.parse(path.read_text(encoding="ascii")) for path in FILES}
FUNCTIONS = (ast.FunctionDef, ast.AsyncFunctionDef)

LIBRARY = {
    "math": "gcd lcm isqrt comb perm factorial".split(),
    "itertools": "product combinations permutations chain accumulate pairwise islice zip_longest".split(),
    "heapq": "heappush heappop heapify heapreplace heappushpop".split(),
    "collections": "defaultdict deque".split(),
}
BUILTINS = """len range enumerate zip min max sum abs sorted reversed int str bool bytes list tuple dict set
isinstance ord repr any all divmod iter next map type super ValueError KeyError IndexError LookupError TypeError
ZeroDivisionError NotImplementedError NotImplemented property staticmethod classmethod""".split()
METHODS = """append clear copy count endswith extend find get index insert isalnum isalpha isdigit islower isspace
isupper items join keys ljust lower lstrip partition pop remove replace reverse rfind rjust rpartition rsplit rstrip
setdefault split splitlines startswith strip update upper values zfill bit_length add discard""".split()
OPERATORS = """lt le gt ge ne add sub mul floordiv mod pow and or xor lshift rshift neg pos invert abs bool contains
getitem setitem init eq repr str len enter exit call iter""".split()
BARRED = """register mro elements open input law version_info with_traceback add_note attrgetter breakpoint builtins
compile copyright credits delattr dir eval exec exit gc globals help id importlib license locals methodcaller os quit
vars sys typing enum Generic Protocol ABC namedtuple dataclass""".split()


def nodes(kind):
    """Yield (module, node) for each node of this kind in the package."""
    for module, tree in TREES.items():
        for node in ast.walk(tree):
            if isinstance(node, kind):
                yield module, node


def top_names(module):
    """Return the names that a file defines at module level."""
    found = []
    for node in TREES[module].body:
        if isinstance(node, (ast.FunctionDef, ast.ClassDef)):
            found.append(node.name)
        if isinstance(node, ast.Assign):
            found.extend(target.id for target in node.targets)
    return found


def bound_names():
    """Yield (module, name) for all that the package names: functions, classes, parameters, variables."""
    for module, node in nodes((ast.FunctionDef, ast.ClassDef, ast.arg, ast.Name)):
        if isinstance(node, ast.arg):
            yield module, node.arg
        elif isinstance(node, ast.Name):
            if isinstance(node.ctx, ast.Store):
                yield module, node.id
        else:
            yield module, node.name


def classes():
    return [node for _, node in nodes(ast.ClassDef)]


def own_methods():
    return {each.name for node in classes() for each in node.body if isinstance(each, FUNCTIONS)}


class LanguageTest(unittest.TestCase):
    def test_folder(self):
        extra = [path.name for path in PACKAGE.iterdir() if path.suffix != ".py" and path.name != "__pycache__"]
        self.assertEqual(extra, [])
        self.assertTrue((PACKAGE / "__init__.py").is_file())
        self.assertLessEqual(len(FILES), 100)
        for path in FILES:
            self.assertRegex(path.stem, r"^(__init__|[a-z][a-z0-9_]*)$")
            self.assertNotIn(path.stem, vars(builtins))

    def test_sizes_and_characters(self):
        for path in FILES:
            text = path.read_text(encoding="ascii")
            lines = text.splitlines()
            self.assertLessEqual(len(lines), 399, path.name)
            self.assertIsNone(re.search(r"[^ -~\n]", text), path.name)
            self.assertLessEqual(max(map(len, lines)), 120, path.name)
            with warnings.catch_warnings():
                warnings.simplefilter("error")
                compile(text, path.name, "exec")
        for module, node in nodes(FUNCTIONS):
            self.assertLessEqual(node.end_lineno - node.lineno + 1, 40, f"{module}.{node.name}")

    def test_module_level(self):
        allowed = (ast.ImportFrom, ast.FunctionDef, ast.ClassDef, ast.Assign)
        for module, tree in TREES.items():
            body = tree.body
            self.assertIsNotNone(ast.get_docstring(tree), module)
            others = [node for node in body[1:] if not isinstance(node, allowed)]
            self.assertEqual(others, [], module)
            names = top_names(module)
            self.assertEqual(len(names), len(set(names)), module)
            for node in body:
                if isinstance(node, ast.Assign):
                    self.assertEqual(len(node.targets), 1)
                    self.assertEqual([each for each in ast.walk(node.value) if isinstance(each, ast.Call)], [])

    def test_imports(self):
        self.assertEqual(list(nodes(ast.Import)), [])
        for module, node in nodes(ast.ImportFrom):
            self.assertIn(node, TREES[module].body)
            for alias in node.names:
                self.assertIsNone(alias.asname)
                if node.module in LIBRARY:
                    self.assertIn(alias.name, LIBRARY[node.module])
                else:
                    self.assertTrue(node.module.startswith("provedunseen."), node.module)
                    self.assertIn(alias.name, top_names(node.module.partition(".")[2]), module)

    def test_imports_are_used_and_name_nothing_else(self):
        for module, tree in TREES.items():
            imported = [alias.name for node in tree.body if isinstance(node, ast.ImportFrom) for alias in node.names]
            read = {node.id for node in ast.walk(tree) if isinstance(node, ast.Name)}
            self.assertEqual([name for name in imported if name not in read], [], module)
            bound = [name for where, name in bound_names() if where == module]
            self.assertEqual([name for name in imported if name in bound], [], module)

    def test_no_import_cycle(self):
        reached = {module: set() for module in TREES}
        for module, node in nodes(ast.ImportFrom):
            if node.module not in LIBRARY:
                reached[module].add(node.module.partition(".")[2])
        for _ in TREES:
            for module in TREES:
                for other in list(reached[module]):
                    reached[module] |= reached[other]
        self.assertEqual([module for module in TREES if module in reached[module]], [])

    def test_names(self):
        for module, name in bound_names():
            with self.subTest(module=module, name=name):
                self.assertNotIn(name, BARRED)
                if not (name.startswith("__") and name.endswith("__")):
                    self.assertRegex(name, r"^(_|_?[A-Za-z][A-Za-z0-9_]*)$")
        methods = own_methods()
        for module, name in bound_names():
            self.assertFalse(name in vars(builtins) and name not in methods, f"{module}: {name}")
        self.assertEqual([name for name in methods if name in BUILTINS], [])

    def test_builtins(self):
        for module, node in nodes(ast.Name):
            if isinstance(node.ctx, ast.Load) and node.id in vars(builtins):
                self.assertIn(node.id, BUILTINS, module)

    def test_type_is_only_compared(self):
        for module, tree in TREES.items():
            compared = [each for node in ast.walk(tree) if isinstance(node, ast.Compare) for each in ast.walk(node)]
            for node in ast.walk(tree):
                if isinstance(node, ast.Name) and node.id == "type":
                    self.assertIn(node, compared, module)

    def test_statements_and_signs(self):
        barred = (ast.Global, ast.AsyncFunctionDef, ast.AsyncFor, ast.AsyncWith, ast.Await, ast.Div, ast.MatMult)
        self.assertEqual(list(nodes(barred)), [])
        for module, node in nodes(ast.Constant):
            self.assertNotIsInstance(node.value, (float, complex), module)
            if isinstance(node.value, str):
                self.assertNotIn("%", node.value, module)
        for module, node in nodes(ast.BinOp):
            if isinstance(node.op, ast.Pow):
                self.assertIsInstance(node.right, ast.Constant, module)
        for module, node in nodes(ast.Compare):
            for sign, other in zip(node.ops, node.comparators):
                if isinstance(sign, (ast.Is, ast.IsNot)) and not isinstance(node.left, ast.Call):
                    self.assertIn(getattr(other, "value", "other"), (None, True, False), module)

    def test_decorators_and_double_underscores(self):
        for module, node in nodes((ast.FunctionDef, ast.ClassDef)):
            for decorator in node.decorator_list:
                self.assertIn(ast.unparse(decorator).rpartition(".")[2],
                              ("staticmethod", "classmethod", "property", "setter"), module)
        for name in own_methods():
            if name.startswith("__"):
                self.assertIn(name.strip("_"), OPERATORS)

    def test_methods_that_are_called(self):
        known = own_methods() | set(METHODS)
        for module, node in nodes(ast.Call):
            if isinstance(node.func, ast.Attribute):
                self.assertIn(node.func.attr, known, module)

    def test_attributes_that_are_read(self):
        known = own_methods() | set(METHODS)
        for _, node in nodes(ast.Attribute):
            if isinstance(node.ctx, ast.Store):
                known.add(node.attr)
        for node in classes():
            for each in node.body:
                if isinstance(each, ast.Assign):
                    known.add(each.targets[0].id)
        for module, node in nodes(ast.Attribute):
            self.assertIn(node.attr, known, module)

    def test_no_name_is_a_method_and_an_attribute(self):
        assigned = {node.attr for _, node in nodes(ast.Attribute) if isinstance(node.ctx, ast.Store)}
        self.assertEqual(assigned & own_methods(), set())
        self.assertEqual((assigned | own_methods()) & {name for name in METHODS if name != "count"}, set())

    def test_local_names_are_not_those_of_the_file(self):
        for module, node in nodes(ast.FunctionDef):
            names = [each for each in ast.walk(node) if isinstance(each, ast.Name)]
            local = {each.id for each in names if isinstance(each.ctx, ast.Store)}
            local |= {each.arg for each in ast.walk(node) if isinstance(each, ast.arg)}
            self.assertEqual(local & set(top_names(module)), set(), f"{module}.{node.name}")

    def test_finally_only_assigns(self):
        for module, node in nodes(ast.Try):
            for each in node.finalbody:
                self.assertIsInstance(each, ast.Assign, module)
                self.assertIsInstance(each.value, (ast.Name, ast.Attribute, ast.Constant), module)

    def test_super_is_only_called_for_a_method(self):
        called = [node.func.value for _, node in nodes(ast.Call) if isinstance(node.func, ast.Attribute)]
        for module, node in nodes(ast.Call):
            if isinstance(node.func, ast.Name) and node.func.id == "super":
                self.assertEqual((node.args, node.keywords), ([], []), module)
                self.assertIn(node, called, module)

    def test_module_level_lists_and_dicts_are_not_handed_on(self):
        # All tables of the package are tuples, which are free.
        for module, tree in TREES.items():
            for node in tree.body:
                if isinstance(node, ast.Assign):
                    self.assertNotIsInstance(node.value, (ast.List, ast.Dict, ast.Set), module)

    def test_expressions_that_need_a_list(self):
        # The package has classes with __eq__ and with operators: then these take no generator expression.
        for module, node in nodes(ast.Call):
            if isinstance(node.func, ast.Name) and node.func.id in ("any", "all", "min", "max", "sum", "sorted"):
                for argument in node.args:
                    self.assertNotIsInstance(argument, ast.GeneratorExp, module)

    def test_errors_that_are_caught(self):
        for module, node in nodes(ast.ExceptHandler):
            self.assertIsNotNone(node.type, module)
            self.assertNotIn(ast.unparse(node.type), ("Exception", "ValueError", "LookupError", "IndexError"))

    def test_generators_are_iterated_at_once(self):
        generators = set()
        for module, node in nodes(ast.FunctionDef):
            if any(isinstance(each, (ast.Yield, ast.YieldFrom)) for each in ast.walk(node)):
                generators.add(node.name)
        iterating = ("list", "tuple", "dict", "sorted", "enumerate", "zip", "join")
        for module, tree in TREES.items():
            good = []
            for node in ast.walk(tree):
                if isinstance(node, (ast.For, ast.comprehension)):
                    good.append(node.iter)
                if isinstance(node, ast.YieldFrom):
                    good.append(node.value)
                if isinstance(node, ast.Call) and getattr(node.func, "id", "") in iterating:
                    good.extend(node.args)
            for node in ast.walk(tree):
                if isinstance(node, ast.Call):
                    name = getattr(node.func, "id", getattr(node.func, "attr", ""))
                    if name in generators:
                        self.assertIn(node, good, f"{module}: {name}")


if __name__ == "__main__":
    unittest.main()
