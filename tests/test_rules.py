"""Rules of the language that are easily broken without notice: files, sizes, imports, and no floats."""

import ast
import builtins
import os
import unittest

PACKAGE = os.path.join(os.path.dirname(os.path.dirname(os.path.abspath(__file__))), "spreadstates")
LIBRARY = {
    "heapq": {"heappush", "heappop", "heapify", "heapreplace", "heappushpop"},
    "math": {"gcd", "lcm", "isqrt", "comb", "perm", "factorial"},
    "itertools": {"accumulate", "pairwise", "chain", "combinations"},
}
# What the language bars in part, and the package leaves out altogether.
LEFT_OUT = (
    ast.Try, ast.Lambda, ast.GeneratorExp, ast.Yield, ast.YieldFrom, ast.With, ast.Match, ast.Nonlocal, ast.NamedExpr,
    ast.Await, ast.AnnAssign, ast.Assert, ast.Starred,
)
AROUND = ("list", "sorted", "tuple", "dict", "zip", "enumerate", "combinations")
AT_ONCE = ("zip", "enumerate", "reversed", "range", "items", "keys", "values", "accumulate", "combinations")
BARRED = ("open", "input", "print", "eval", "exec", "map", "type", "float", "round", "hash", "id", "vars", "super")


def names_of_files():
    return sorted(name for name in os.listdir(PACKAGE) if name != "__pycache__")


def text_of(name):
    with open(os.path.join(PACKAGE, name), encoding="utf-8") as file:
        return file.read()


def nodes_of(name):
    return list(ast.walk(ast.parse(text_of(name))))


def name_of(call):
    """The name of the function or the method that is called."""
    return call.func.attr if isinstance(call.func, ast.Attribute) else getattr(call.func, "id", "")


class Rules(unittest.TestCase):
    def test_files(self):
        self.assertIn("__init__.py", names_of_files())
        for name in names_of_files():
            self.assertRegex(name, "^[a-z_]+[.]py$")

    def test_sizes_and_characters(self):
        for name in names_of_files():
            lines = text_of(name).split("\n")
            with self.subTest(name=name):
                self.assertLessEqual(len(lines), 400)
                self.assertLessEqual(max(len(line) for line in lines), 120)
                self.assertEqual({letter for line in lines for letter in line if not " " <= letter <= "~"}, set())
                for node in nodes_of(name):
                    if isinstance(node, ast.FunctionDef):
                        self.assertLessEqual(node.end_lineno - node.lineno, 39, node.name)

    def test_imports(self):
        for name in names_of_files():
            for node in nodes_of(name):
                with self.subTest(name=name):
                    self.assertNotIsInstance(node, ast.Import)
                    if isinstance(node, ast.ImportFrom) and node.module in LIBRARY:
                        self.assertLessEqual({part.name for part in node.names}, LIBRARY[node.module])
                    elif isinstance(node, ast.ImportFrom):
                        self.assertTrue(node.module.startswith("spreadstates."))
                        defined = text_of(node.module.split(".")[1] + ".py")
                        for part in node.names:
                            self.assertRegex(defined, "(?m)^((def|class) " + part.name + "\\b|" + part.name + " = )")

    def test_no_floats_and_no_barred_names(self):
        for name in names_of_files():
            for node in nodes_of(name):
                with self.subTest(name=name):
                    self.assertNotIsInstance(node, (ast.Div, ast.Global, ast.AsyncFunctionDef))
                    if isinstance(node, ast.Constant):
                        self.assertNotIsInstance(node.value, (float, complex))
                        self.assertFalse(isinstance(node.value, str) and "%" in node.value)
                    if isinstance(node, ast.Name):
                        self.assertNotIn(node.id, BARRED)

    def test_what_is_left_out(self):
        for name in names_of_files():
            for node in nodes_of(name):
                with self.subTest(name=name):
                    self.assertNotIsInstance(node, LEFT_OUT)
                    if isinstance(node, ast.Delete):
                        self.assertTrue(all(isinstance(target, ast.Subscript) for target in node.targets))
                    if isinstance(node, ast.Attribute):
                        self.assertNotIn(node.attr, ("sort", "format", "mro", "encode", "decode"))

    def test_names(self):
        for name in names_of_files():
            bound_at_top = [node.name for node in ast.parse(text_of(name)).body if hasattr(node, "name")]
            imported = [part.name for node in nodes_of(name) if isinstance(node, ast.ImportFrom) for part in node.names]
            self.assertEqual(len(bound_at_top + imported), len(set(bound_at_top + imported)))
            for node in nodes_of(name):
                here = []
                if isinstance(node, ast.Name) and isinstance(node.ctx, ast.Store):
                    here = [node.id]
                elif isinstance(node, ast.arg):
                    here = [node.arg]
                for word in here:
                    with self.subTest(name=name, word=word):
                        self.assertRegex(word, "^[A-Za-z][A-Za-z0-9_]*$|^_$")
                        self.assertFalse(hasattr(builtins, word))
                        self.assertNotIn(word, bound_at_top + imported)

    def test_what_is_iterated_at_once(self):
        for name in names_of_files():
            allowed = set()
            nodes = nodes_of(name)
            for node in nodes:
                if isinstance(node, (ast.For, ast.comprehension)):
                    allowed.add(node.iter)
                elif isinstance(node, ast.Call) and name_of(node) in AROUND:
                    allowed.update(node.args[:1])
            for node in nodes:
                if isinstance(node, ast.Call) and name_of(node) in AT_ONCE:
                    with self.subTest(name=name, line=node.lineno):
                        self.assertTrue(node in allowed)

    def test_exponents(self):
        for name in names_of_files():
            for node in nodes_of(name):
                if isinstance(node, ast.BinOp) and isinstance(node.op, ast.Pow):
                    digits = isinstance(node.right, ast.BinOp) and isinstance(node.right.op, ast.Mod)
                    exponent = node.right.right if digits else node.right
                    with self.subTest(name=name, line=node.lineno):
                        self.assertLessEqual(exponent.value, 64)

    def test_no_ring_of_imports(self):
        ahead = {}
        for name in names_of_files():
            modules = [node.module for node in nodes_of(name) if isinstance(node, ast.ImportFrom)]
            ahead[name] = {module.split(".")[1] + ".py" for module in modules if module.startswith("spreadstates.")}
        while ahead:
            free = [name for name in ahead if not ahead[name] & set(ahead)]
            self.assertTrue(free)
            for name in free:
                del ahead[name]


if __name__ == "__main__":
    unittest.main()
