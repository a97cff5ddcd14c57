"""What can be checked of ../shared/LANGUAGE.md by a look at the files."""

import ast
import builtins
import unittest
from pathlib import Path

PACKAGE = Path(__file__).resolve().parent.parent / "movingup"
FILES = sorted(path for path in PACKAGE.rglob("*") if "__pycache__" not in path.parts and path.is_file())
BUILTINS = {
    "len", "range", "enumerate", "zip", "min", "max", "sum", "abs", "sorted", "reversed", "int", "str", "bool",
    "list", "tuple", "dict", "set", "isinstance", "ord", "repr", "any", "all", "divmod", "iter", "next"}
BUILTIN_METHODS = {
    "append", "add", "count", "extend", "get", "index", "insert", "isascii", "isdigit", "items", "join", "keys", "lstrip",
    "partition", "pop", "reverse", "split", "startswith", "strip", "values"}
DOUBLE_UNDERSCORE = {"__init__", "__eq__", "__len__", "__contains__"}
NAMES_OF_BUILTINS = set(dir(builtins))
BARRED_NAMES = {"register", "mro", "elements", "open", "input", "law", "version_info", "with_traceback", "add_note"}
BARRED_ATTRIBUTES = {
    "items", "keys", "values", "pop", "update", "append", "clear", "extend", "insert", "remove", "reverse", "setdefault",
    "sort", "args", "encode", "decode", "hex", "fromhex", "format"}
LIBRARY = {"math": {"gcd", "lcm", "isqrt", "comb", "perm", "factorial"}}
STATEMENTS = (
    ast.Expr, ast.ImportFrom, ast.FunctionDef, ast.ClassDef, ast.Assign)
BARRED_NODES = (
    ast.Global, ast.AsyncFunctionDef, ast.AsyncFor, ast.AsyncWith, ast.Await, ast.Import, ast.Div)


def trees():
    return [(path, ast.parse(path.read_text("utf-8"))) for path in FILES]


def defined_names(tree):
    return {node.name for node in tree.body if isinstance(node, (ast.FunctionDef, ast.ClassDef))}


class Files(unittest.TestCase):
    def test_only_python_files(self):
        for path in FILES:
            self.assertRegex(path.name, r"^[a-z_][a-z0-9_]*\.py$")

    def test_characters_and_sizes(self):
        for path in FILES:
            text = path.read_bytes()
            self.assertLessEqual(set(text), {10, *range(32, 127)}, path)
            lines = text.decode("ascii").splitlines()
            self.assertLess(len(lines), 400, path)
            self.assertLessEqual(max(map(len, lines)), 120, path)

    def test_functions_are_short(self):
        for path, tree in trees():
            for node in ast.walk(tree):
                if isinstance(node, ast.FunctionDef):
                    self.assertLessEqual(node.end_lineno - node.lineno + 1, 40, (path, node.name))

    def test_module_level(self):
        for path, tree in trees():
            for node in tree.body:
                self.assertIsInstance(node, STATEMENTS, path)

    def test_imports_name_the_file_that_defines(self):
        known = {"movingup." + path.stem: defined_names(tree) for path, tree in trees()}
        known.update(LIBRARY)
        for path, tree in trees():
            for node in ast.walk(tree):
                if isinstance(node, ast.ImportFrom):
                    self.assertIn(node, tree.body)
                    self.assertEqual(node.level, 0)
                    for name in node.names:
                        self.assertIn(name.name, known[node.module], path)
                        self.assertIsNone(name.asname)

    def test_library_names_are_only_called(self):
        for path, tree in trees():
            imported = {name.name for node in tree.body if isinstance(node, ast.ImportFrom)
                        for name in node.names if node.module in LIBRARY}
            called = {id(node.func) for node in ast.walk(tree) if isinstance(node, ast.Call)}
            for node in ast.walk(tree):
                if isinstance(node, ast.Name) and node.id in imported:
                    self.assertIn(id(node), called, path)

    def test_no_local_name_hides_an_import(self):
        for path, tree in trees():
            imported = {name.name for node in tree.body if isinstance(node, ast.ImportFrom) for name in node.names}
            for node in ast.walk(tree):
                if isinstance(node, ast.Name) and isinstance(node.ctx, ast.Store):
                    self.assertNotIn(node.id, imported | BUILTINS, path)
                if isinstance(node, ast.arg):
                    self.assertNotIn(node.arg, imported | BUILTINS, path)

    def test_generators_have_names_of_their_own(self):
        functions = [node for _, tree in trees() for node in ast.walk(tree) if isinstance(node, ast.FunctionDef)]
        generators = [node.name for node in functions
                      if any(isinstance(part, (ast.Yield, ast.YieldFrom)) for part in ast.walk(node))]
        for name in generators:
            self.assertEqual([node.name for node in functions].count(name), 1)

    def test_calls_and_nodes(self):
        known = {name for _, tree in trees() for name in defined_names(tree)} | LIBRARY["math"]
        for path, tree in trees():
            for node in ast.walk(tree):
                self.assertNotIsInstance(node, BARRED_NODES, path)
                if isinstance(node, ast.Call) and isinstance(node.func, ast.Name):
                    # Where cls may stand: test_decorators.
                    self.assertIn(node.func.id, known | BUILTINS | {"cls"}, path)
                if isinstance(node, ast.Constant):
                    self.assertNotIsInstance(node.value, (float, complex), path)

    def test_names(self):
        for path, tree in trees():
            for node in ast.walk(tree):
                if isinstance(node, (ast.FunctionDef, ast.ClassDef)):
                    self.assertNotIn(node.name, BARRED_NAMES, path)
                if isinstance(node, (ast.Name, ast.arg)):
                    name = node.id if isinstance(node, ast.Name) else node.arg
                    self.assertNotIn(name, BARRED_NAMES, path)
                    if isinstance(node, ast.arg) or isinstance(node.ctx, ast.Store):
                        self.assertNotIn(name, NAMES_OF_BUILTINS, path)
                if isinstance(node, ast.Attribute):
                    self.assertNotIn(node.attr, BARRED_NAMES, path)
                    if isinstance(node.ctx, ast.Store):
                        self.assertNotIn(node.attr, BARRED_ATTRIBUTES, path)


def methods_of(node):
    return [part for part in node.body if isinstance(part, ast.FunctionDef)]


def decorators_of(node):
    return [part.id for part in node.decorator_list]


class Classes(unittest.TestCase):
    def classes(self):
        return [(path, node) for path, tree in trees() for node in tree.body if isinstance(node, ast.ClassDef)]

    def test_classes_stand_at_module_level(self):
        found = [node for _, tree in trees() for node in ast.walk(tree) if isinstance(node, ast.ClassDef)]
        self.assertEqual(len(found), len(self.classes()))
        for node in found:
            self.assertEqual(node.decorator_list, [])

    def test_bodies(self):
        for path, node in self.classes():
            for part in node.body:
                self.assertIsInstance(part, (ast.FunctionDef, ast.Assign, ast.Expr), path)
            names = [part.name for part in methods_of(node)]
            self.assertEqual(len(set(names)), len(names), path)
            for name in names:
                self.assertTrue(not name.startswith("__") or name in DOUBLE_UNDERSCORE, name)

    def test_decorators(self):
        for path, tree in trees():
            made = [part for node in tree.body if isinstance(node, ast.ClassDef) for part in methods_of(node)]
            for node in ast.walk(tree):
                if isinstance(node, ast.FunctionDef) and node not in made:
                    self.assertEqual(node.decorator_list, [], path)
            for node in made:
                self.assertIn(decorators_of(node), ([], ["property"], ["classmethod"]), path)
                reads = [part for part in ast.walk(node) if isinstance(part, ast.Name) and part.id == "cls"]
                calls = [part.func for part in ast.walk(node) if isinstance(part, ast.Call) and part.func in reads]
                self.assertEqual(len(reads), len(calls) if decorators_of(node) == ["classmethod"] else 0)

    def test_methods_and_attributes_have_names_of_their_own(self):
        methods, attributes = set(), set()
        for _, node in self.classes():
            methods |= {part.name for part in methods_of(node)}
            methods |= {target.id for part in node.body if isinstance(part, ast.Assign) for target in part.targets}
            attributes |= {part.attr for part in ast.walk(node)
                           if isinstance(part, ast.Attribute) and isinstance(part.ctx, ast.Store)}
        self.assertEqual(methods & attributes, set())

    def test_called_methods(self):
        own = {part.name for _, node in self.classes() for part in methods_of(node)}
        for path, tree in trees():
            for node in ast.walk(tree):
                if isinstance(node, ast.Call) and isinstance(node.func, ast.Attribute):
                    self.assertIn(node.func.attr, own | BUILTIN_METHODS, path)

    def test_nothing_is_sorted_in_place(self):
        # L25: no .sort() where a class has __eq__ or __len__.
        for path, tree in trees():
            self.assertNotIn("sort", [node.attr for node in ast.walk(tree) if isinstance(node, ast.Attribute)], path)

    def test_lists_are_given_instead_of_generator_expressions(self):
        # L7: where a class has __eq__, any, all, min, max, sum and sorted take a list.
        for path, tree in trees():
            for node in ast.walk(tree):
                self.assertNotIsInstance(node, ast.GeneratorExp, path)


if __name__ == "__main__":
    unittest.main()
