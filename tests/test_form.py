"""The form of the package: what can be seen in its files alone."""

import ast
import pathlib
import unittest

# What the document's interface lists: for each file its functions, and its classes with their methods.
INTERFACE = {
    "errors": {"TargetError": {}, "NotValid": {}, "BadText": {"__init__": "line place"}},
    "values": {
        "is_value": "value", "is_constant": "value", "depth": "value", "value_key": "value",
        "is_book": "facts relations", "variables_of": "atoms", "frontier": "rule", "made_variables": "rule",
        "made": "rule variable values", "fact_of": "atom binding", "is_program": "value",
        "is_question": "value program"},
    "matches": {"matches": "atoms facts start", "has_match": "atoms facts start"},
    "classes": {"Classes": {
        "__init__": "", "add": "value", "join_values": "one other", "same": "one other", "root": "value",
        "name": "value", "clash": "", "count": ""}},
    "chase": {
        "Chase": {
            "__init__": "program source known", "open_steps": "", "make": "index", "run": "", "has_ended": "",
            "outcome": "", "lines": "", "classes": ""},
        "chased": "program source known"},
    "papers": {
        "judge_answer": "program source known question answer paper", "judge_clash": "program source known paper",
        "answer_paper": "program source known question answer", "clash_paper": "program source known"},
    "targets": {"first_fault": "program source book", "is_target": "program source book"},
    "texts": {"parse": "text", "parse_question": "text", "print_program": "program", "print_question": "question"},
    "ends": {
        "positions": "program", "arcs": "program", "ranks": "program", "ring": "program", "judge_ranks": "program ranks",
        "judge_ring": "program ring", "greatest_rank": "program", "most_values": "program constants"},
    "questions": {"answers": "question book", "certain": "question book", "is_answer": "question book answer"},
    "maps": {
        "values_of": "book", "into": "program book other", "judge_map": "book other image", "image_of": "book image"},
    "cores": {"find_map": "book other", "fold": "book", "core": "book", "alike": "one other"},
    "kept": {
        "parts_in_islands": "program", "islands": "program source",
        "Keeper": {"__init__": "program", "add": "facts", "take": "facts", "source": "", "outcome": ""}},
}
ROOT = pathlib.Path(__file__).resolve().parent.parent
PACKAGE = ROOT / "everytarget"
BUILTINS = (
    "len range enumerate zip min max sum abs sorted reversed int str bool list tuple dict set isinstance ord repr "
    "any all divmod iter next ValueError KeyError").split()
METHODS = (
    "append clear copy count endswith extend find get index insert isalnum isalpha isdigit islower isspace isupper "
    "items join keys ljust lower lstrip partition pop remove replace reverse rfind rjust rpartition rsplit rstrip "
    "setdefault split splitlines startswith strip update upper values zfill bit_length add discard").split()
LIBRARY = ("heapq", "math", "itertools", "collections", "__future__")
BARRED = (
    "register mro elements open input law version_info compile dir eval exec exit gc globals help id locals "
    "os quit super type vars sys hash map filter print object property").split()
STATEMENTS = (
    ast.Global, ast.AsyncFunctionDef, ast.Await, ast.AsyncFor, ast.AsyncWith, ast.Import, ast.Div, ast.MatMult)


def files():
    return sorted(PACKAGE.iterdir())


def trees():
    return [(path, ast.parse(path.read_text(encoding="ascii"))) for path in files() if path.suffix == ".py"]


def own_names(every):
    """Functions, classes, attributes and everything that is bound in the package."""
    names = set()
    for _, tree in every:
        for node in ast.walk(tree):
            if isinstance(node, (ast.FunctionDef, ast.ClassDef)):
                names.add(node.name)
            elif isinstance(node, ast.Name) and isinstance(node.ctx, ast.Store):
                names.add(node.id)
            elif isinstance(node, ast.arg):
                names.add(node.arg)
    return names


class Form(unittest.TestCase):
    def test_the_folder_has_plain_python_files_only(self):
        names = [path.name for path in files() if path.name != "__pycache__"]
        self.assertIn("__init__.py", names)
        for name in names:
            self.assertRegex(name, r"\A[a-z_]+\.py\Z")

    def test_sizes_and_signs(self):
        for path, _ in trees():
            text = path.read_bytes().decode("ascii")
            self.assertTrue(all(sign == "\n" or " " <= sign <= "~" for sign in text), path)
            lines = text.split("\n")
            self.assertLessEqual(len(lines) - 1, 399, path)
            self.assertLessEqual(max(len(line) for line in lines), 120, path)
            self.assertTrue(all(line == line.rstrip() for line in lines), path)

    def test_length_of_functions(self):
        for path, tree in trees():
            for node in ast.walk(tree):
                if isinstance(node, ast.FunctionDef):
                    self.assertLessEqual(node.end_lineno - node.lineno + 1, 40, (path, node.name))
                    self.assertIsNotNone(ast.get_docstring(node) or node.name.startswith("__") or None, node.name)

    def test_statements(self):
        for path, tree in trees():
            for node in ast.walk(tree):
                self.assertNotIsInstance(node, STATEMENTS, (path, getattr(node, "lineno", 0)))
                if isinstance(node, ast.Constant):
                    self.assertNotIsInstance(node.value, (float, complex), path)

    def test_imports(self):
        for path, tree in trees():
            for node in ast.walk(tree):
                if isinstance(node, ast.ImportFrom):
                    self.assertEqual(node.level, 0)
                    self.assertIn(node.module.split(".")[0], ("everytarget",) + LIBRARY, path)
                    if node.module.startswith("everytarget"):
                        self.assertTrue((ROOT / (node.module.replace(".", "/") + ".py")).exists(), path)

    def test_names(self):
        every = trees()
        names = own_names(every)
        for barred in BARRED + BUILTINS:
            self.assertNotIn(barred, names)
        for path, tree in every:
            imported = [name.name for node in ast.walk(tree) if isinstance(node, ast.ImportFrom) for name in node.names]
            for node in ast.walk(tree):
                if isinstance(node, ast.Name) and isinstance(node.ctx, ast.Load):
                    self.assertTrue(
                        node.id in names or node.id in imported or node.id in BUILTINS, (path, node.lineno, node.id))

    def test_methods_of_builtin_values(self):
        every = trees()
        names = own_names(every)
        for path, tree in every:
            for node in ast.walk(tree):
                if isinstance(node, ast.Call) and isinstance(node.func, ast.Attribute):
                    self.assertIn(node.func.attr, METHODS + sorted(names), (path, node.lineno))

    def test_modules_contain_definitions_and_plain_values_only(self):
        for path, tree in trees():
            bound = []
            for node in tree.body:
                if isinstance(node, ast.Assign):
                    ast.literal_eval(node.value)
                    bound += [target.id for target in node.targets]
                elif isinstance(node, (ast.FunctionDef, ast.ClassDef)):
                    bound.append(node.name)
                elif isinstance(node, ast.ImportFrom):
                    bound += [name.asname or name.name for name in node.names]
                else:
                    self.assertTrue(isinstance(node, ast.Expr) and isinstance(node.value, ast.Constant), path)
            self.assertEqual(len(bound), len(set(bound)), path)

    def test_the_interface_is_defined_in_its_files(self):
        for module, listed in INTERFACE.items():
            tree = ast.parse((PACKAGE / (module + ".py")).read_text(encoding="ascii"))
            defined = {node.name: node for node in tree.body if isinstance(node, (ast.FunctionDef, ast.ClassDef))}
            for name, told in listed.items():
                if isinstance(told, str):
                    self.assert_parameters(defined[name], told.split())
                else:
                    methods = {node.name: node for node in defined[name].body if isinstance(node, ast.FunctionDef)}
                    for method, parameters in told.items():
                        self.assert_parameters(methods[method], ["self"] + parameters.split())

    def assert_parameters(self, function, names):
        told = function.args
        self.assertEqual([parameter.arg for parameter in told.args], names, function.name)
        self.assertEqual(
            (told.posonlyargs, told.kwonlyargs, told.vararg, told.kwarg, told.defaults), ([], [], None, None, []))

    def test_no_two_files_import_from_each_other(self):
        found = {}
        for path, tree in trees():
            found[path.stem] = [
                node.module.split(".")[1] for node in ast.walk(tree)
                if isinstance(node, ast.ImportFrom) and node.module.startswith("everytarget.")]
        done = []
        while len(done) < len(found):
            free = [name for name in found if name not in done and all(other in done for other in found[name])]
            self.assertNotEqual(free, [])
            done += free


if __name__ == "__main__":
    unittest.main()
