"""The plainest rules of ../shared/LANGUAGE.md, over the files of the package."""

import ast
import builtins
import os
import unittest

PACKAGE = os.path.join(os.path.dirname(os.path.dirname(os.path.abspath(__file__))), "tellfew")
LIBRARY = {
    "heapq": {"heappush", "heappop", "heapify", "heapreplace", "heappushpop"},
    "math": {"gcd", "lcm", "isqrt", "comb", "perm", "factorial"},
    "itertools": {"product", "combinations", "permutations", "chain", "accumulate", "pairwise", "islice",
                  "zip_longest"},
    "collections": {"defaultdict"},
}
CALLED = set("""len range enumerate zip min max sum abs sorted reversed int str bool list tuple dict set isinstance ord
    repr any all divmod pow getattr hasattr setattr iter next map ValueError KeyError IndexError None True
    False""".split())
NOT_USED = set("""register mro elements open input law version_info with_traceback add_note compile dir eval exec exit
    gc globals locals help id os quit super type vars sys typing enum Enum namedtuple dataclass""".split())
BUILTINS = {name for name in dir(builtins) if not name.startswith("_")}
NODES_NOT_USED = (ast.Global, ast.AsyncFunctionDef, ast.AsyncFor, ast.AsyncWith, ast.Await, ast.Div, ast.Import)


def package_files():
    return sorted(name for name in os.listdir(PACKAGE) if name != "__pycache__")


def text_of(name):
    with open(os.path.join(PACKAGE, name), encoding="utf-8", newline="") as file:
        return file.read()


def package_trees():
    return [(name, ast.parse(text_of(name))) for name in package_files()]


def functions_in(tree):
    return [node for node in ast.walk(tree) if isinstance(node, ast.FunctionDef)]


def names_bound_in(function):
    named = function.args.posonlyargs + function.args.args + function.args.kwonlyargs
    stored = [node.id for node in ast.walk(function) if isinstance(node, ast.Name) and isinstance(node.ctx, ast.Store)]
    return {part.arg for part in named} | set(stored)


class Language(unittest.TestCase):

    def test_files(self):
        names = package_files()
        self.assertIn("__init__.py", names)
        self.assertLessEqual(len(names), 100)
        for name in names:
            self.assertRegex(name, r"^[a-z_][a-z0-9_]*\.py$")
            self.assertNotIn(name[:-3], BUILTINS)

    def test_sizes_and_signs(self):
        for name, tree in package_trees():
            with self.subTest(file=name):
                text = text_of(name)
                self.assertTrue(all(sign == "\n" or " " <= sign <= "~" for sign in text))
                self.assertLessEqual(text.count("\n"), 399)
                self.assertLessEqual(max(map(len, text.split("\n"))), 120)
                for function in functions_in(tree):
                    self.assertLessEqual(function.end_lineno - function.lineno + 1, 40, function.name)

    def test_imports(self):
        for name, tree in package_trees():
            with self.subTest(file=name):
                for node in ast.walk(tree):
                    self.assertNotIsInstance(node, ast.Import)
                    if not isinstance(node, ast.ImportFrom):
                        continue
                    self.assertIn(node, tree.body)
                    self.assertEqual(node.level, 0)
                    names = {part.name for part in node.names}
                    if node.module in LIBRARY:
                        self.assertLessEqual(names, LIBRARY[node.module])
                        continue
                    head, _, file = node.module.partition(".")
                    self.assertEqual(head, "tellfew")
                    defined = {getattr(part, "name", None) for part in ast.parse(text_of(file + ".py")).body}
                    assigned = {part.targets[0].id for part in ast.parse(text_of(file + ".py")).body
                                if isinstance(part, ast.Assign)}
                    self.assertLessEqual(names, defined | assigned)

    def test_module_level(self):
        plain = (ast.ImportFrom, ast.FunctionDef, ast.ClassDef, ast.Assign)
        for name, tree in package_trees():
            with self.subTest(file=name):
                self.assertIsInstance(ast.get_docstring(tree), str)
                for node in tree.body[1:]:
                    self.assertIsInstance(node, plain)

    def test_names(self):
        for name, tree in package_trees():
            with self.subTest(file=name):
                imported = {part.name for node in tree.body if isinstance(node, ast.ImportFrom) for part in node.names}
                classes = {node.name for node in tree.body if isinstance(node, ast.ClassDef)}
                for function in functions_in(tree):
                    bound = names_bound_in(function)
                    self.assertEqual(bound & (imported | classes), set(), function.name)
                    self.assertEqual(bound & BUILTINS, set(), function.name)
                    self.assertNotIn(function.name, BUILTINS)
                for node in ast.walk(tree):
                    if isinstance(node, ast.Name):
                        self.assertNotIn(node.id, NOT_USED)
                        self.assertFalse(isinstance(node.ctx, ast.Load) and node.id == "_")
                        self.assertNotIn(node.id, BUILTINS - CALLED)

    def test_values(self):
        for name, tree in package_trees():
            with self.subTest(file=name):
                for node in ast.walk(tree):
                    self.assertNotIsInstance(node, NODES_NOT_USED)
                    if isinstance(node, ast.Constant):
                        self.assertNotIsInstance(node.value, (float, complex, bytes))
                        if isinstance(node.value, str):
                            self.assertNotIn("%", node.value)
                            self.assertNotIn("type", node.value.split())


if __name__ == "__main__":
    unittest.main()
