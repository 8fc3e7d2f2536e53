"""The rules of the language that are easily measured: files, sizes, characters, imports and builtins."""

import ast
import builtins
import pathlib
import unittest

PACKAGE = pathlib.Path(__file__).resolve().parent.parent / "causeloops"
ALLOWED = """len range enumerate zip min max sum abs sorted reversed int str bool bytes list tuple dict set frozenset
isinstance ord repr any all divmod pow getattr hasattr setattr iter next map type Exception ValueError TypeError
KeyError IndexError LookupError ZeroDivisionError ArithmeticError OverflowError RuntimeError NotImplementedError
AttributeError StopIteration NotImplemented property staticmethod classmethod super""".split()

METHODS = """append clear copy count endswith extend find get index insert isalnum isalpha isdigit islower isspace isupper
items join keys ljust lower lstrip partition pop remove replace reverse rfind rjust rpartition rsplit rstrip setdefault
split splitlines startswith strip update upper values zfill bit_length""".split()


def trees():
    return [(path, ast.parse(path.read_text())) for path in sorted(PACKAGE.rglob("*.py"))]


class LanguageTests(unittest.TestCase):
    def test_files_and_lines(self):
        self.assertTrue((PACKAGE / "__init__.py").is_file())
        for path in PACKAGE.rglob("*.py"):
            text = path.read_text()
            lines = text.split("\n")
            self.assertLess(len(lines), 400, path)
            self.assertLessEqual(max(len(line) for line in lines), 120, path)
            self.assertTrue(all(" " <= letter <= "~" or letter == "\n" for letter in text), path)

    def test_functions(self):
        for path, tree in trees():
            for node in ast.walk(tree):
                if isinstance(node, ast.FunctionDef):
                    self.assertLessEqual(node.end_lineno - node.lineno + 1, 40, (path, node.name))

    def test_imports(self):
        for path, tree in trees():
            for node in ast.walk(tree):
                self.assertNotIsInstance(node, ast.Import, path)
                if isinstance(node, ast.ImportFrom) and node.module.startswith("causeloops"):
                    source = ast.parse((PACKAGE.parent / (node.module.replace(".", "/") + ".py")).read_text())
                    bound = [item.name for item in source.body if isinstance(item, (ast.FunctionDef, ast.ClassDef))]
                    for name in node.names:
                        self.assertTrue(name.name in bound or name.name.isupper(), (path, name.name))
                elif isinstance(node, ast.ImportFrom):
                    self.assertIn(node.module, ("__future__", "heapq", "math", "itertools", "collections"), path)

    def test_builtins(self):
        for path, tree in trees():
            for node in ast.walk(tree):
                if isinstance(node, ast.Name) and hasattr(builtins, node.id):
                    self.assertIn(node.id, ALLOWED, (path, node.lineno))
                    self.assertIsInstance(node.ctx, ast.Load, (path, node.lineno))
                if isinstance(node, ast.arg):
                    self.assertFalse(hasattr(builtins, node.arg), (path, node.lineno))
                self.assertNotIsInstance(node, (ast.Global, ast.AsyncFunctionDef, ast.Div, ast.Set), path)

    def test_names_of_imports_and_classes_mean_one_thing(self):
        for path, tree in trees():
            taken = [name.name for node in tree.body if isinstance(node, ast.ImportFrom) for name in node.names]
            taken += [node.name for node in tree.body if isinstance(node, ast.ClassDef)]
            self.assertEqual(len(taken), len(set(taken)), path)
            bound = [node.id for node in ast.walk(tree) if isinstance(node, ast.Name)
                     and isinstance(node.ctx, ast.Store)]
            bound += [node.arg for node in ast.walk(tree) if isinstance(node, ast.arg)]
            self.assertEqual(set(bound) & set(taken), set(), path)

    def test_methods_and_attributes_have_names_of_their_own(self):
        for path, tree in trees():
            for made in [node for node in tree.body if isinstance(node, ast.ClassDef)]:
                methods = [node.name for node in made.body if isinstance(node, ast.FunctionDef)]
                stored = [node.attr for node in ast.walk(made) if isinstance(node, ast.Attribute)
                          and isinstance(node.ctx, ast.Store)]
                self.assertEqual(len(methods), len(set(methods)), path)
                self.assertEqual(set(methods) & set(stored), set(), path)

    def test_methods_are_own_ones_or_allowed(self):
        nodes = [node for _, tree in trees() for node in ast.walk(tree)]
        own = {part.name for node in nodes if isinstance(node, ast.ClassDef) for part in node.body
               if isinstance(part, ast.FunctionDef)}
        stored = {node.attr for node in nodes if isinstance(node, ast.Attribute) and isinstance(node.ctx, ast.Store)}
        called = {node.func.attr for node in nodes if isinstance(node, ast.Call) and isinstance(node.func, ast.Attribute)}
        self.assertLessEqual(called, own | set(METHODS))
        self.assertEqual(own & stored, set())
        read = {node.attr for node in nodes if isinstance(node, ast.Attribute) and isinstance(node.ctx, ast.Load)}
        self.assertLessEqual(read - called, stored)


if __name__ == "__main__":
    unittest.main()
