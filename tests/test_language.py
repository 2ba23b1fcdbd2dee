"""The rules of the language that can be read off the package's files: form, size and words."""

import ast
import os
import unittest

PACKAGE = os.path.join(os.path.dirname(os.path.dirname(os.path.abspath(__file__))), "spoutlines")
LIBRARY = {
    "heapq": {"heappush", "heappop", "heapify", "heapreplace", "heappushpop"},
    "math": {"gcd", "lcm", "isqrt", "comb", "perm", "factorial"},
    "itertools": {
        "product", "combinations", "permutations", "chain", "accumulate", "pairwise", "islice", "zip_longest",
    },
    "collections": {"defaultdict"},
}
STATEMENTS = (
    ast.FunctionDef, ast.ClassDef, ast.Return, ast.Delete, ast.Assign, ast.AugAssign, ast.AnnAssign, ast.For, ast.While,
    ast.If, ast.With, ast.Match, ast.Raise, ast.Try, ast.Assert, ast.ImportFrom, ast.Nonlocal, ast.Expr, ast.Pass,
    ast.Break, ast.Continue,
)
MODULE_LEVEL = (ast.ImportFrom, ast.FunctionDef, ast.ClassDef, ast.Assign)
BUILTINS = {
    "len", "range", "enumerate", "zip", "map", "min", "max", "sum", "abs", "sorted", "reversed", "int", "str", "bool",
    "bytes", "list", "tuple", "dict", "set", "frozenset", "isinstance", "ord", "repr", "any", "all", "divmod", "pow",
    "getattr", "hasattr", "setattr", "iter", "next", "super", "property", "staticmethod", "classmethod", "Exception",
    "ValueError", "TypeError", "KeyError", "IndexError", "LookupError", "ZeroDivisionError", "ArithmeticError",
    "OverflowError", "RuntimeError", "NotImplementedError", "AttributeError", "StopIteration", "NotImplemented",
}
BARRED = {
    "register", "mro", "elements", "open", "input", "law", "version_info", "with_traceback", "add_note", "breakpoint",
    "builtins", "compile", "delattr", "dir", "eval", "exec", "exit", "gc", "globals", "hash", "help", "id", "importlib",
    "locals", "os", "quit", "sys", "type", "vars", "typing", "enum", "print", "chr", "float", "complex", "round",
}


def package_files():
    found = []
    for folder, folders, names in os.walk(PACKAGE):
        folders[:] = [name for name in folders if name != "__pycache__"]
        found += [os.path.join(folder, name) for name in names]
    return sorted(found)


def text_of(path):
    with open(path, encoding="utf-8", newline="") as file:
        return file.read()


def names_bound(tree):
    """All names that a file gives a meaning."""
    for node in ast.walk(tree):
        if isinstance(node, (ast.FunctionDef, ast.ClassDef)):
            yield node.name
        elif isinstance(node, ast.arg):
            yield node.arg
        elif isinstance(node, ast.Name) and isinstance(node.ctx, ast.Store):
            yield node.id
        elif isinstance(node, (ast.ExceptHandler, ast.MatchAs, ast.MatchStar)) and node.name:
            yield node.name
        elif isinstance(node, ast.alias):
            yield node.asname or node.name


class LanguageTest(unittest.TestCase):

    def setUp(self):
        self.trees = {path: ast.parse(text_of(path)) for path in package_files() if path.endswith(".py")}

    def test_the_package_holds_source_files_alone(self):
        self.assertTrue(self.trees)
        self.assertEqual([path for path in package_files() if path not in self.trees], [])

    def test_signs_and_sizes(self):
        for path in self.trees:
            text = text_of(path)
            self.assertEqual(sorted({sign for sign in text if sign != "\n" and not " " <= sign <= "~"}), [], path)
            self.assertLessEqual(text.count("\n"), 399, path)
            self.assertLessEqual(max([len(line) for line in text.split("\n")]), 120, path)

    def test_functions_are_small(self):
        for path, tree in self.trees.items():
            for node in ast.walk(tree):
                if isinstance(node, ast.FunctionDef):
                    self.assertLessEqual(node.end_lineno - node.lineno + 1, 40, (path, node.name))

    def test_statements(self):
        for path, tree in self.trees.items():
            for at, node in enumerate(tree.body):
                docstring = at == 0 and isinstance(node, ast.Expr) and isinstance(node.value, ast.Constant)
                self.assertTrue(docstring or isinstance(node, MODULE_LEVEL), (path, node.lineno))
            for node in ast.walk(tree):
                if isinstance(node, ast.stmt):
                    self.assertIsInstance(node, STATEMENTS, (path, node.lineno))

    def test_no_division_no_float(self):
        for path, tree in self.trees.items():
            for node in ast.walk(tree):
                self.assertNotIsInstance(node, ast.Div, path)
                if isinstance(node, ast.Constant):
                    self.assertNotIsInstance(node.value, (float, complex), (path, node.lineno))

    def test_imports(self):
        for path, tree in self.trees.items():
            for node in ast.walk(tree):
                if isinstance(node, ast.ImportFrom):
                    names = [alias.name for alias in node.names]
                    self.assertEqual(node.level, 0, path)
                    if node.module in LIBRARY:
                        self.assertLessEqual(set(names), LIBRARY[node.module], path)
                    else:
                        self.check_own_import(path, node.module, names)

    def check_own_import(self, path, module, names):
        self.assertTrue(module.startswith("spoutlines."), (path, module))
        own = os.path.join(os.path.dirname(PACKAGE), *module.split(".")) + ".py"
        self.assertIn(own, self.trees, path)
        defined = [node.name for node in self.trees[own].body if isinstance(node, (ast.FunctionDef, ast.ClassDef))]
        defined += [node.targets[0].id for node in self.trees[own].body if isinstance(node, ast.Assign)]
        self.assertLessEqual(set(names), set(defined), path)

    def test_imports_do_not_lead_back(self):
        leads_to = {}
        for path, tree in self.trees.items():
            module = "spoutlines." + os.path.basename(path)[:-3]
            names = [node.module for node in ast.walk(tree) if isinstance(node, ast.ImportFrom)]
            leads_to[module] = {name for name in names if name not in LIBRARY}
        while leads_to:
            last_ones = [module for module, names in leads_to.items() if not names]
            self.assertTrue(last_ones, leads_to)
            leads_to = {module: names - set(last_ones) for module, names in leads_to.items() if names}

    def test_module_level_values_are_plain(self):
        for path, tree in self.trees.items():
            for node in tree.body:
                if isinstance(node, ast.Assign):
                    self.assertEqual(len(node.targets), 1, path)
                    self.assertIsInstance(node.targets[0], ast.Name, path)
                    ast.literal_eval(node.value)

    def test_imports_are_used(self):
        for path, tree in self.trees.items():
            used = {node.id for node in ast.walk(tree) if isinstance(node, ast.Name)}
            for node in ast.walk(tree):
                if isinstance(node, ast.ImportFrom):
                    self.assertEqual([alias.name for alias in node.names if alias.name not in used], [], path)

    def test_names(self):
        for path, tree in self.trees.items():
            for name in names_bound(tree):
                self.assertNotIn(name, BUILTINS | BARRED, path)
            bound = set(names_bound(tree)) | BUILTINS
            for node in ast.walk(tree):
                if isinstance(node, ast.Name):
                    self.assertIn(node.id, bound, (path, node.lineno))

    def test_parameters_and_variables_do_not_hide_imports(self):
        for path, tree in self.trees.items():
            taken = {alias.name for node in tree.body if isinstance(node, ast.ImportFrom) for alias in node.names}
            taken |= {node.name for node in tree.body if isinstance(node, ast.ClassDef)}
            inner = {node.arg for node in ast.walk(tree) if isinstance(node, ast.arg)}
            inner |= {node.id for node in ast.walk(tree)
                      if isinstance(node, ast.Name) and isinstance(node.ctx, ast.Store)}
            self.assertEqual(taken & inner, set(), path)


if __name__ == "__main__":
    unittest.main()
