"""The bounds of the language that the package keeps to, as far as a short test sees them."""

import ast
import os
import unittest

PACKAGE = os.path.join(os.path.dirname(os.path.dirname(os.path.abspath(__file__))), "branchsheets")
BEHIND = ("math",)


def files():
    for name in sorted(os.listdir(PACKAGE)):
        if name.endswith(".py"):
            with open(os.path.join(PACKAGE, name), encoding="utf-8") as held:
                yield name, held.read()


class Language(unittest.TestCase):
    def test_sizes_and_signs(self):
        for name, text in files():
            lines = text.split("\n")
            self.assertLessEqual(len(lines) - 1, 399, name)
            self.assertLessEqual(max(len(line) for line in lines), 120, name)
            self.assertTrue(all(" " <= sign <= "~" or sign == "\n" for sign in text), name)
            for node in ast.walk(ast.parse(text)):
                if isinstance(node, ast.FunctionDef):
                    self.assertLessEqual(node.end_lineno - node.lineno + 1, 40, name + " " + node.name)

    def test_imports(self):
        ahead = {}
        for name, text in files():
            modules = []
            for node in ast.walk(ast.parse(text)):
                self.assertNotIsInstance(node, ast.Import, name)
                if isinstance(node, ast.ImportFrom):
                    self.assertTrue(node.module in BEHIND or node.module.startswith("branchsheets."), name)
                    modules.append(node.module.split(".")[-1])
            ahead[name[:-3]] = modules
        for name in ahead:
            met, waiting = set(), list(ahead[name])
            while waiting:
                module = waiting.pop()
                self.assertNotEqual(module, name)
                if module not in met and module not in BEHIND:
                    met.add(module)
                    waiting.extend(ahead[module])

    def test_no_floats_and_powers(self):
        for name, text in files():
            for node in ast.walk(ast.parse(text)):
                self.assertFalse(isinstance(node, ast.Constant) and isinstance(node.value, (float, complex)), name)
                self.assertFalse(isinstance(node, ast.BinOp) and isinstance(node.op, (ast.Div, ast.Pow)), name)
                self.assertNotIsInstance(node, (ast.Global, ast.AsyncFunctionDef), name)


if __name__ == "__main__":
    unittest.main()
