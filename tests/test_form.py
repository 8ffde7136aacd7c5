"""The form of the package: what can be seen in its files alone."""

import ast
import pathlib
import unittest

ROOT = pathlib.Path(__file__).resolve().parent.parent
PACKAGE = ROOT / "everytarget"
BUILTINS = (
    "len range enumerate zip min max sum abs sorted reversed int str bool list tuple dict set isinstance ord repr "
    "any all divmod iter next ValueError KeyError").split()
METHODS = (
    "append clear copy count endswith extend find get index insert isalnum isalpha isdigit islower isspace isupper "
    "items join keys ljust lower lstrip partition pop remove replace reverse rfind rjust rpartition rsplit rstrip "
    "setdefault split splitlines startswith strip update upper values zfill bit_length add discard").split()
LIBRARY = ("heapq", "math", "itertools", "collections", "__future__")
BARRED = (
    "register mro elements open input law version_info compile dir eval exec exit gc globals help id locals "
    "os quit super type vars sys hash map filter print object property").split()
STATEMENTS = (
    ast.Global, ast.AsyncFunctionDef, ast.Await, ast.AsyncFor, ast.AsyncWith, ast.Import, ast.Div, ast.MatMult)


def files():
    return sorted(PACKAGE.iterdir())


def trees():
    return [(path, ast.parse(path.read_text(encoding="ascii"))) for path in files() if path.suffix == ".py"]


def own_names(every):
    """Functions, classes, attributes and everything that is bound in the package."""
    names = set()
    for _, tree in every:
        for node in ast.walk(tree):
            if isinstance(node, (ast.FunctionDef, ast.ClassDef)):
                names.add(node.name)
            elif isinstance(node, ast.Name) and isinstance(node.ctx, ast.Store):
                names.add(node.id)
            elif isinstance(node, ast.arg):
                names.add(node.arg)
    return names


class Form(unittest.TestCase):
    def test_the_folder_has_plain_python_files_only(self):
        names = [path.name for path in files() if path.name != "__pycache__"]
        self.assertIn("__init__.py", names)
        for name in names:
            self.assertRegex(name, r"\A[a-z_]+\.py\Z")

    def test_sizes_and_signs(self):
        for path, _ in trees():
            text = path.read_bytes().decode("ascii")
            self.assertTrue(all(sign == "\n" or " " <= sign <= "~" for sign in text), path)
            lines = text.split("\n")
            self.assertLessEqual(len(lines) - 1, 399, path)
            self.assertLessEqual(max(len(line) for line in lines), 120, path)
            self.assertTrue(all(line == line.rstrip() for line in lines), path)

    def test_length_of_functions(self):
        for path, tree in trees():
            for node in ast.walk(tree):
                if isinstance(node, ast.FunctionDef):
                    self.assertLessEqual(node.end_lineno - node.lineno + 1, 40, (path, node.name))
                    self.assertIsNotNone(ast.get_docstring(node) or node.name.startswith("__") or None, node.name)

    def test_statements(self):
        for path, tree in trees():
            for node in ast.walk(tree):
                self.assertNotIsInstance(node, STATEMENTS, (path, getattr(node, "lineno", 0)))
                if isinstance(node, ast.Constant):
                    self.assertNotIsInstance(node.value, (float, complex), path)

    def test_imports(self):
        for path, tree in trees():
            for node in ast.walk(tree):
                if isinstance(node, ast.ImportFrom):
                    self.assertEqual(node.level, 0)
                    self.assertIn(node.module.split(".")[0], ("everytarget",) + LIBRARY, path)
                    if node.module.startswith("everytarget"):
                        self.assertTrue((ROOT / (node.module.replace(".", "/") + ".py")).exists(), path)

    def test_names(self):
        every = trees()
        names = own_names(every)
        for barred in BARRED + BUILTINS:
            self.assertNotIn(barred, names)
        for path, tree in every:
            imported = [name.name for node in ast.walk(tree) if isinstance(node, ast.ImportFrom) for name in node.names]
            for node in ast.walk(tree):
                if isinstance(node, ast.Name) and isinstance(node.ctx, ast.Load):
                    self.assertTrue(
                        node.id in names or node.id in imported or node.id in BUILTINS, (path, node.lineno, node.id))

    def test_methods_of_builtin_values(self):
        every = trees()
        names = own_names(every)
        for path, tree in every:
            for node in ast.walk(tree):
                if isinstance(node, ast.Call) and isinstance(node.func, ast.Attribute):
                    self.assertIn(node.func.attr, METHODS + sorted(names), (path, node.lineno))

    def test_modules_contain_definitions_and_plain_values_only(self):
        for path, tree in trees():
            bound = []
            for node in tree.body:
                if isinstance(node, ast.Assign):
                    ast.literal_eval(node.value)
                    bound += [target.id for target in node.targets]
                elif isinstance(node, (ast.FunctionDef, ast.ClassDef)):
                    bound.append(node.name)
                elif isinstance(node, ast.ImportFrom):
                    bound += [name.asname or name.name for name in node.names]
                else:
                    self.assertTrue(isinstance(node, ast.Expr) and isinstance(node.value, ast.Constant), path)
            self.assertEqual(len(bound), len(set(bound)), path)


if __name__ == "__main__":
    unittest.main()
