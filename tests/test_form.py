"""Rules about the form of the package that a short test can see: files, sizes, characters, imports, builtins."""

import ast
import builtins
import pathlib
import unittest

PACKAGE = pathlib.Path(__file__).resolve().parent.parent / "shuntplan"
FILES = sorted(PACKAGE.rglob("*.py"))
BUILTINS = (
    "len range enumerate zip min max sum abs sorted reversed int str bool list tuple dict set isinstance ord repr any "
    "all divmod super property staticmethod classmethod iter next map Exception ValueError TypeError KeyError "
    "IndexError LookupError ZeroDivisionError OverflowError RuntimeError NotImplemented"
).split()
LIBRARY = ("__future__", "heapq", "math", "itertools", "collections")


def nodes_of(path, *kinds):
    tree = ast.parse(path.read_text())
    return [node for node in ast.walk(tree) if isinstance(node, kinds)]


class FormTest(unittest.TestCase):
    def test_the_folder_contains_only_python_files(self):
        others = [path for path in PACKAGE.rglob("*") if path.is_file() and path.suffix != ".py"]
        self.assertEqual([path for path in others if "__pycache__" not in path.parts], [])
        self.assertIn(PACKAGE / "__init__.py", FILES)

    def test_sizes_and_characters(self):
        for path in FILES:
            text = path.read_text()
            self.assertLess(text.count("\n"), 400, path)
            self.assertTrue(all([char == "\n" or " " <= char <= "~" for char in text]), path)
            for line in text.split("\n"):
                self.assertLessEqual(len(line), 120, f"{path}: {line}")
            for node in nodes_of(path, ast.FunctionDef):
                self.assertLessEqual(node.end_lineno - node.lineno + 1, 40, f"{path}: {node.name}")

    def test_imports_name_the_defining_file(self):
        for path in FILES:
            self.assertEqual(nodes_of(path, ast.Import), [], path)
            for node in nodes_of(path, ast.ImportFrom):
                self.assertEqual(node.level, 0, path)
                if node.module in LIBRARY:
                    continue
                source = PACKAGE.parent / (node.module.replace(".", "/") + ".py")
                self.assertEqual(node.module.split(".")[0], "shuntplan", path)
                for alias in node.names:
                    self.assertIn(alias.name, self.defined_in(source), path)

    def defined_in(self, path):
        names = set()
        for node in ast.parse(path.read_text()).body:
            if isinstance(node, (ast.FunctionDef, ast.ClassDef)):
                names.add(node.name)
            if isinstance(node, ast.Assign):
                names.add(node.targets[0].id)
        return names

    def test_only_listed_builtins(self):
        for path in FILES:
            for node in nodes_of(path, ast.Name):
                if hasattr(builtins, node.id):
                    self.assertIn(node.id, BUILTINS, f"{path}:{node.lineno}")
                    self.assertIsInstance(node.ctx, ast.Load, f"{path}:{node.lineno}")

    def test_no_name_is_unused(self):
        for path in FILES:
            used = {node.id for node in nodes_of(path, ast.Name)}
            for node in nodes_of(path, ast.ImportFrom):
                self.assertTrue({alias.name for alias in node.names} <= used, f"{path}:{node.lineno}")


if __name__ == "__main__":
    unittest.main()
