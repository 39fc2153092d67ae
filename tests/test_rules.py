"""Rules of the language that are easily broken without notice: files, sizes, imports, and no floats."""

import ast
import os
import unittest

PACKAGE = os.path.join(os.path.dirname(os.path.dirname(os.path.abspath(__file__))), "spreadstates")
LIBRARY = {"heapq": {"heappush", "heappop", "heapify", "heapreplace", "heappushpop"}}
BARRED = ("open", "input", "print", "eval", "exec", "map", "type", "float", "round", "hash", "id", "vars", "super")


def names_of_files():
    return sorted(name for name in os.listdir(PACKAGE) if name != "__pycache__")


def text_of(name):
    with open(os.path.join(PACKAGE, name), encoding="utf-8") as file:
        return file.read()


def nodes_of(name):
    return list(ast.walk(ast.parse(text_of(name))))


class Rules(unittest.TestCase):
    def test_files(self):
        self.assertIn("__init__.py", names_of_files())
        for name in names_of_files():
            self.assertRegex(name, "^[a-z_]+[.]py$")

    def test_sizes_and_characters(self):
        for name in names_of_files():
            lines = text_of(name).split("\n")
            with self.subTest(name=name):
                self.assertLessEqual(len(lines), 400)
                self.assertLessEqual(max(len(line) for line in lines), 120)
                self.assertEqual({letter for line in lines for letter in line if not " " <= letter <= "~"}, set())
                for node in nodes_of(name):
                    if isinstance(node, ast.FunctionDef):
                        self.assertLessEqual(node.end_lineno - node.lineno, 39, node.name)

    def test_imports(self):
        for name in names_of_files():
            for node in nodes_of(name):
                with self.subTest(name=name):
                    self.assertNotIsInstance(node, ast.Import)
                    if isinstance(node, ast.ImportFrom) and node.module in LIBRARY:
                        self.assertLessEqual({part.name for part in node.names}, LIBRARY[node.module])
                    elif isinstance(node, ast.ImportFrom):
                        self.assertTrue(node.module.startswith("spreadstates."))
                        defined = text_of(node.module.split(".")[1] + ".py")
                        for part in node.names:
                            self.assertRegex(defined, "(?m)^((def|class) " + part.name + "\\b|" + part.name + " = )")

    def test_no_floats_and_no_barred_names(self):
        for name in names_of_files():
            for node in nodes_of(name):
                with self.subTest(name=name):
                    self.assertNotIsInstance(node, (ast.Div, ast.Global, ast.AsyncFunctionDef))
                    if isinstance(node, ast.Constant):
                        self.assertNotIsInstance(node.value, (float, complex))
                        self.assertFalse(isinstance(node.value, str) and "%" in node.value)
                    if isinstance(node, ast.Name):
                        self.assertNotIn(node.id, BARRED)


if __name__ == "__main__":
    unittest.main()
