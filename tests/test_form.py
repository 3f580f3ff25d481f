"""The form of the package: the rules of LANGUAGE.md that can be seen at a glance in the parsed files."""

import ast
import builtins
import pathlib
import re
import unittest
import warnings

import howhigh

FOLDER = pathlib.Path(howhigh.__file__).parent
FILES = sorted(path for path in FOLDER.rglob("*") if path.is_file() and "__pycache__" not in path.parts)
BUILTINS = """len range enumerate zip min max sum abs sorted reversed int str bool bytes list tuple dict set isinstance ord repr any all
divmod ValueError KeyError property""".split()
METHODS = """append clear copy count endswith extend find get index insert isalnum isalpha isdigit islower isspace isupper items join keys
ljust lower lstrip partition pop remove replace reverse rfind rjust rpartition rsplit rstrip setdefault split splitlines startswith strip
update upper values zfill bit_length add discard""".split()
LIBRARY = {"heapq": "heappush heappop heapify heapreplace heappushpop", "math": "gcd lcm isqrt comb perm factorial",
           "itertools": "product combinations permutations chain accumulate pairwise islice zip_longest"}
BARRED_NODES = (ast.AsyncFunctionDef, ast.AsyncFor, ast.AsyncWith, ast.Await, ast.Global, ast.Div, ast.GeneratorExp, ast.Yield,
                ast.YieldFrom, ast.SetComp, ast.Set, ast.AnnAssign)
BARRED_WORDS = """type typing enum Enum Flag Generic Protocol ABC namedtuple NamedTuple dataclass overload contextmanager register mro elements
open input law chr map iter next""".split()


def trees():
    for path in FILES:
        yield path, ast.parse(path.read_text())


def nodes(kind):
    for path, tree in trees():
        for node in ast.walk(tree):
            if isinstance(node, kind):
                yield path, node


class FilesTest(unittest.TestCase):
    def test_the_folder_has_plain_python_files_only(self):
        self.assertGreater(len(FILES), 10)
        for path in FILES:
            self.assertRegex(path.name, r"^([a-z][a-z0-9_]*|__init__|__main__)\.py$")
            self.assertEqual(path.parent, FOLDER)

    def test_sizes_and_characters(self):
        for path in FILES:
            text = path.read_bytes().decode("ascii")
            self.assertIsNone(re.search(r"[^\n -~]", text), path)
            self.assertLessEqual(len(text.splitlines()), 399, path)
            self.assertLessEqual(max(map(len, text.splitlines())), 120, path)

    def test_functions_are_short(self):
        for path, node in nodes(ast.FunctionDef):
            self.assertLessEqual(node.end_lineno - node.lineno + 1 + len(node.decorator_list), 40, (path, node.name))

    def test_no_warnings(self):
        with warnings.catch_warnings():
            warnings.simplefilter("error")
            for path in FILES:
                compile(path.read_text(), str(path), "exec")


class ImportsTest(unittest.TestCase):
    def test_each_name_comes_from_the_file_that_defines_it(self):
        defined = {}
        for path, tree in trees():
            names = [node.name for node in tree.body if isinstance(node, (ast.FunctionDef, ast.ClassDef))]
            names += [target.id for node in tree.body if isinstance(node, ast.Assign) for target in node.targets]
            self.assertEqual(len(names), len(set(names)), path)
            defined["howhigh." + path.stem] = names
        self.assertEqual(list(nodes(ast.Import)), [])
        for path, node in nodes(ast.ImportFrom):
            self.assertEqual(node.level, 0, path)
            known = LIBRARY[node.module].split() if node.module in LIBRARY else defined[node.module]
            for alias in node.names:
                self.assertIn(alias.name, known, path)
                self.assertIsNone(alias.asname, path)

    def test_no_two_files_import_from_each_other(self):
        behind = {path.stem: set() for path in FILES}
        for path, node in nodes(ast.ImportFrom):
            if node.module not in LIBRARY:
                behind[path.stem].add(node.module.split(".")[1])
        while behind:
            free = [name for name, others in behind.items() if not others]
            self.assertTrue(free, behind)
            behind = {name: others - set(free) for name, others in behind.items() if name not in free}

    def test_imports_are_used(self):
        for path, tree in trees():
            read = {node.id for node in ast.walk(tree) if isinstance(node, ast.Name)}
            for node in tree.body:
                if isinstance(node, ast.ImportFrom):
                    for alias in node.names:
                        self.assertIn(alias.name, read, path)

    def test_no_variable_has_the_name_of_an_import_or_a_builtin(self):
        for path, tree in trees():
            taken = {alias.name for node in tree.body if isinstance(node, ast.ImportFrom) for alias in node.names}
            taken |= {node.name for node in tree.body if isinstance(node, ast.ClassDef)} | set(dir(builtins)) | set(BUILTINS)
            for node in ast.walk(tree):
                if isinstance(node, ast.arg):
                    self.assertNotIn(node.arg, taken, path)
                if isinstance(node, ast.Name) and not isinstance(node.ctx, ast.Load):
                    self.assertNotIn(node.id, taken, path)


class StatementsTest(unittest.TestCase):
    def test_barred_parts_of_the_language(self):
        self.assertEqual([(path.name, node.lineno) for path, node in nodes(BARRED_NODES) if hasattr(node, "lineno")], [])
        self.assertEqual(list(nodes(ast.Div)), [])

    def test_modules_have_only_definitions(self):
        for path, tree in trees():
            for k, node in enumerate(tree.body):
                docstring = k == 0 and isinstance(node, ast.Expr) and isinstance(node.value, ast.Constant)
                plain = (ast.ImportFrom, ast.FunctionDef, ast.ClassDef, ast.Assign)
                self.assertTrue(docstring or isinstance(node, plain), (path, node.lineno))

    def test_literals(self):
        for path, node in nodes(ast.Constant):
            self.assertNotIsInstance(node.value, (float, complex), path)
            if isinstance(node.value, str):
                self.assertNotIn("%", node.value, path)

    def test_exponents_are_small_literals(self):
        for path, node in nodes(ast.BinOp):
            if isinstance(node.op, ast.Pow):
                self.assertIsInstance(node.right, ast.Constant, path)
                self.assertIn(node.right.value, range(65), path)

    def test_is_stands_beside_none_and_flags_only(self):
        for path, node in nodes(ast.Compare):
            if any(isinstance(sign, (ast.Is, ast.IsNot)) for sign in node.ops):
                self.assertIn(ast.unparse(node.comparators[0]), ("None", "True", "False"), (path, node.lineno))

    def test_names_and_builtins(self):
        for path, node in nodes(ast.Name):
            self.assertNotIn(node.id, BARRED_WORDS, path)
            if node.id in dir(builtins):
                self.assertIn(node.id, BUILTINS, (path, node.lineno))
            self.assertRegex(node.id, r"^(_?[A-Za-z][A-Za-z0-9_]*|_)$")

    def test_classes(self):
        for path, node in nodes(ast.ClassDef):
            self.assertRegex(node.name, r"^[A-Z][A-Za-z]*$")
            self.assertEqual(node.decorator_list, [])
            for inner in node.body:
                self.assertIsInstance(inner, (ast.FunctionDef, ast.Expr), path)

    def test_methods_that_are_called(self):
        own = {node.name for _, node in nodes(ast.FunctionDef)}
        for path, node in nodes(ast.Call):
            if isinstance(node.func, ast.Attribute):
                self.assertIn(node.func.attr, {*METHODS, *own}, (path, node.lineno))
            self.assertFalse([word for word in node.keywords if word.arg not in ("reverse", "key", "default")], (path, node.lineno))

    def test_only_own_errors_are_raised_and_none_of_pythons_is_caught(self):
        own = {node.name for path, node in nodes(ast.ClassDef) if path.stem == "errors"}
        for path, node in nodes(ast.Raise):
            self.assertIn(node.exc.func.id, own, path)
        for path, node in nodes(ast.ExceptHandler):
            self.assertIn(node.type.id, own, path)


if __name__ == "__main__":
    unittest.main()
