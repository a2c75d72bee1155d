"""What of the rules of the language plain reading tells: files, sizes, signs, imports."""

import ast
import builtins
import pathlib
import unittest

PACKAGE = pathlib.Path(__file__).resolve().parent.parent / "stairlaid"
FILES = sorted(PACKAGE.glob("*.py"))
LIBRARY = {"heapq", "math", "itertools", "collections"}
BARRED = (ast.AsyncFunctionDef, ast.Await, ast.Div, ast.GeneratorExp)


def trees():
    return [(file.name, ast.parse(file.read_text())) for file in FILES]


class Language(unittest.TestCase):
    def test_files(self):
        names = [file.name for file in PACKAGE.iterdir() if file.name != "__pycache__"]
        self.assertEqual(sorted(names), [file.name for file in FILES])
        self.assertIn("__init__.py", names)

    def test_sizes_and_signs(self):
        for file in FILES:
            text = file.read_text()
            self.assertLessEqual(len(text.splitlines()), 399, file)
            self.assertTrue(all([sign == "\n" or " " <= sign <= "~" for sign in text]), file)
            self.assertTrue(all([len(line) <= 120 for line in text.splitlines()]), file)

    def test_functions_are_short(self):
        for name, tree in trees():
            for node in ast.walk(tree):
                if isinstance(node, ast.FunctionDef):
                    self.assertLessEqual(node.end_lineno - node.lineno + 1, 40, (name, node.name))

    def test_imports(self):
        for name, tree in trees():
            for node in ast.walk(tree):
                self.assertNotIsInstance(node, ast.Import, name)
                if isinstance(node, ast.ImportFrom):
                    self.assertEqual(node.level, 0, name)
                    self.assertTrue(node.module.startswith("stairlaid.") or node.module in LIBRARY, name)
                    self.assertTrue(all([part.name != "*" and part.asname is None for part in node.names]), name)

    def test_module_level(self):
        for name, tree in trees():
            for at, node in enumerate(tree.body):
                docstring = at == 0 and isinstance(node, ast.Expr)
                fits = (ast.ImportFrom, ast.FunctionDef, ast.ClassDef, ast.Assign)
                self.assertTrue(docstring or isinstance(node, fits), (name, node.lineno))

    def test_nothing_barred(self):
        for name, tree in trees():
            for node in ast.walk(tree):
                self.assertNotIsInstance(node, BARRED, (name, getattr(node, "lineno", None)))
                self.assertFalse(isinstance(node, ast.Constant) and isinstance(node.value, float), name)
            for node in tree.body:
                self.assertEqual(getattr(node, "decorator_list", []), [], (name, node.lineno))

    def test_names_have_one_meaning(self):
        for name, tree in trees():
            taken = {part.name for node in tree.body if isinstance(node, ast.ImportFrom) for part in node.names}
            taken |= {node.name for node in tree.body if isinstance(node, ast.ClassDef)} | set(dir(builtins))
            for node in ast.walk(tree):
                if isinstance(node, ast.arg):
                    self.assertNotIn(node.arg, taken, (name, node.lineno))
                if isinstance(node, ast.Name) and isinstance(node.ctx, ast.Store):
                    self.assertNotIn(node.id, taken, (name, node.lineno))
                if isinstance(node, ast.FunctionDef):
                    self.assertNotIn(node.name, taken, (name, node.lineno))

    def test_imports_do_not_go_round(self):
        # Each file only from such as are told ahead of it, in some order.
        needs = {name[:-3]: {node.module.split(".")[1] for node in tree.body if isinstance(node, ast.ImportFrom)
                             and node.module.startswith("stairlaid.")} for name, tree in trees()}
        while needs:
            free = [name for name, others in needs.items() if not others & set(needs)]
            self.assertTrue(free, needs)
            needs = {name: others for name, others in needs.items() if name not in free}


if __name__ == "__main__":
    unittest.main()
