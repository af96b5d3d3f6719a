"""The files of the package keep the form that is asked for, as far as a short look tells."""

import ast
import builtins
import unittest
from pathlib import Path

PACKAGE = Path(__file__).resolve().parent.parent / "slackstrings"
DECORATORS = {"property", "staticmethod", "classmethod"}
LIBRARY = {
    "heapq": {"heappush", "heappop", "heapify", "heapreplace", "heappushpop"},
    "math": {"gcd", "lcm", "isqrt", "comb", "perm", "factorial"},
    "itertools": {"product", "combinations", "permutations", "chain", "accumulate", "pairwise", "islice",
                  "zip_longest"},
    "collections": {"defaultdict"},
}


def files():
    """The paths of the package's files, each with its text and its tree."""
    for path in sorted(PACKAGE.rglob("*")):
        if path.is_file() and "__pycache__" not in path.parts:
            text = path.read_bytes().decode("ascii")
            yield path, text, ast.parse(text)


def imports(tree):
    """The modules that a file imports from, each with its names."""
    for node in ast.walk(tree):
        if isinstance(node, ast.Import):
            yield ", ".join(each.name for each in node.names), None
        if isinstance(node, ast.ImportFrom):
            yield "." * node.level + (node.module or ""), {each.name for each in node.names}


class FormTest(unittest.TestCase):

    def test_the_package_holds_python_files_alone(self):
        self.assertTrue((PACKAGE / "__init__.py").is_file())
        for path, _, _ in files():
            self.assertEqual(path.suffix, ".py", path)

    def test_sizes_and_characters(self):
        for path, text, tree in files():
            lines = text.splitlines()
            self.assertLessEqual(len(lines), 399, path)
            self.assertLessEqual(max(map(len, lines)), 120, path)
            self.assertTrue(all(" " <= sign <= "~" or sign == "\n" for sign in text), path)
            for node in ast.walk(tree):
                if isinstance(node, ast.FunctionDef):
                    self.assertLessEqual(node.end_lineno - node.lineno, 39, (path, node.name))

    def test_imports(self):
        for path, _, tree in files():
            for module, names in imports(tree):
                if module in LIBRARY:
                    self.assertLessEqual(names, LIBRARY[module], path)
                elif module == "__future__":
                    self.assertEqual(names, {"annotations"}, path)
                else:
                    self.assertTrue(module.startswith("slackstrings."), (path, module))
                    self.assert_defined_there(module, names)

    def assert_defined_there(self, module, names):
        tree = ast.parse((PACKAGE / (module.split(".")[1] + ".py")).read_text())
        for node in tree.body:
            if isinstance(node, (ast.FunctionDef, ast.ClassDef)):
                names = names - {node.name}
            if isinstance(node, ast.Assign):
                names = names - {node.targets[0].id}
        self.assertEqual(names, set(), module)

    def test_statements_and_values(self):
        barred = (ast.Global, ast.AsyncFunctionDef, ast.Await, ast.Div, ast.Import)
        for path, _, tree in files():
            for node in ast.walk(tree):
                self.assertNotIsInstance(node, barred, path)
                self.assertFalse(isinstance(node, ast.Constant) and isinstance(node.value, (float, complex)), path)
                self.assertFalse(isinstance(node, ast.Constant) and "%" in str(node.value), path)
                for each in getattr(node, "decorator_list", []):
                    self.assertTrue(getattr(each, "id", None) in DECORATORS or getattr(each, "attr", "") == "setter")

    def test_names(self):
        for path, _, tree in files():
            taken = {each.name for node in tree.body if isinstance(node, ast.ImportFrom) for each in node.names}
            taken |= {node.name for node in tree.body if isinstance(node, ast.ClassDef)}
            for node in ast.walk(tree):
                name = node.arg if isinstance(node, ast.arg) else getattr(node, "id", None)
                stored = isinstance(node, ast.arg) or isinstance(getattr(node, "ctx", None), ast.Store)
                if name and stored:
                    self.assertNotIn(name, taken, path)
                    # The examples of other tests leave what they showed last in the builtins, as _.
                    self.assertTrue(name == "_" or not hasattr(builtins, name), (path, name))

    def test_imports_are_used(self):
        for path, _, tree in files():
            used = {node.id for node in ast.walk(tree) if isinstance(node, ast.Name)}
            for node in tree.body:
                if isinstance(node, ast.ImportFrom):
                    self.assertLessEqual({each.name for each in node.names}, used, path)

    def test_the_checker_does_not_rest_on_what_finds_certificates(self):
        found = {path.stem: {module.split(".")[1] for module, _ in imports(tree) if module.startswith("slackstrings.")}
                 for path, _, tree in files()}
        reached, left = set(), ["checker"]
        while left:
            at = left.pop()
            reached.add(at)
            left += found[at] - reached
        self.assertEqual(reached & {"regions", "searches", "courses", "grounds", "certificates", "facts"}, set())

    def test_what_is_iterated_once(self):
        """No generator expressions, which would have to be lists mostly; generators have names of their own."""
        names, yielding = [], set()
        for path, _, tree in files():
            for node in ast.walk(tree):
                self.assertNotIsInstance(node, ast.GeneratorExp, path)
                if isinstance(node, ast.FunctionDef):
                    names.append(node.name)
                    if any(isinstance(each, (ast.Yield, ast.YieldFrom)) for each in ast.walk(node)):
                        yielding.add(node.name)
        for name in yielding:
            self.assertEqual(names.count(name), 1, name)
