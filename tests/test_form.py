"""The form of the package's files: what of the language's rules a short test can see.

It also keeps point 2's "no clock, no random numbers, no files and no floating
point numbers".
"""

import ast
import builtins
import pathlib
import re
import unittest
import warnings

PACKAGE = pathlib.Path(__file__).resolve().parent.parent / "twospeeds"

BUILTINS = set(
    "len range enumerate zip min max sum abs sorted reversed int str bool bytes list tuple dict set "
    "frozenset isinstance ord repr any all divmod pow getattr hasattr setattr type iter next map "
    "Exception ValueError TypeError KeyError IndexError LookupError ZeroDivisionError ArithmeticError "
    "OverflowError RuntimeError NotImplementedError AttributeError StopIteration NotImplemented super "
    "property staticmethod classmethod".split())

LIBRARY = {
    "math": {"gcd", "lcm", "isqrt", "comb", "perm", "factorial"},
    "heapq": {"heappush", "heappop", "heapify", "heapreplace", "heappushpop"},
    "itertools": {"product", "combinations", "permutations", "chain", "accumulate", "pairwise", "islice",
                  "zip_longest"},
    "collections": {"defaultdict", "deque"},
}

VALUE_METHODS = set(
    "append clear copy count endswith extend find get index insert isalnum isalpha isdigit islower isspace isupper "
    "items join keys ljust lower lstrip partition pop remove replace reverse rfind rjust rpartition rsplit rstrip "
    "setdefault split splitlines startswith strip update upper values zfill bit_length add discard".split())

DOUBLE_UNDERSCORE = re.compile(r"\b__[a-z]+__\b")
BARRED = re.compile(r"\b(register|mro|elements|open|input|law|eval|exec|globals|locals|vars|typing|enum)\b")


def files():
    return sorted(path for path in PACKAGE.rglob("*") if "__pycache__" not in path.parts)


class Form(unittest.TestCase):
    def each(self):
        for path in files():
            text = path.read_text(encoding="utf-8")
            yield path, text, ast.parse(text)

    def test_only_files_of_the_package(self):
        for path in files():
            with self.subTest(path.name):
                self.assertTrue(path.is_file())
                self.assertRegex(path.name, r"^[a-z_][a-z0-9_]*\.py$")
        self.assertIn(PACKAGE / "__init__.py", files())

    def test_size_and_characters(self):
        for path, text, _ in self.each():
            with self.subTest(path.name):
                lines = text.split("\n")
                self.assertLessEqual(len(lines) - 1, 399)
                self.assertLessEqual(max(len(line) for line in lines), 120)
                self.assertRegex(text, r"\A[ -~\n]*\Z")

    def test_size_of_functions(self):
        for path, _, tree in self.each():
            for node in ast.walk(tree):
                if isinstance(node, ast.FunctionDef):
                    with self.subTest(path=path.name, name=node.name):
                        self.assertLessEqual(node.end_lineno - node.lineno + 1, 40)

    def test_imports(self):
        for path, _, tree in self.each():
            for node in ast.walk(tree):
                with self.subTest(path=path.name, line=getattr(node, "lineno", 0)):
                    self.assertFalse(isinstance(node, ast.Import) and path.name != "__main__.py")
                    if isinstance(node, ast.ImportFrom):
                        self.assertIn(node, tree.body)
                        self.assertEqual(node.level, 0)
                        if not node.module.startswith("twospeeds."):
                            names = {name.name for name in node.names}
                            self.assertLessEqual(names, LIBRARY.get(node.module, set()))

    def test_builtins(self):
        known = set(dir(builtins)) - {"__name__", "__doc__"}
        for path, _, tree in self.each():
            for node in ast.walk(tree):
                if isinstance(node, ast.Name) and node.id in known:
                    with self.subTest(path=path.name, line=node.lineno):
                        self.assertIn(node.id, BUILTINS)
                        self.assertIsInstance(node.ctx, ast.Load)
                if isinstance(node, (ast.FunctionDef, ast.ClassDef)) and node in tree.body:
                    self.assertNotIn(node.name, known)
                if isinstance(node, ast.arg):
                    self.assertNotIn(node.arg, known)

    def test_no_floating_point_numbers(self):
        for path, _, tree in self.each():
            for node in ast.walk(tree):
                with self.subTest(path=path.name, line=getattr(node, "lineno", 0)):
                    self.assertNotIsInstance(node, ast.Div)
                    if isinstance(node, ast.Constant):
                        self.assertNotIsInstance(node.value, (float, complex))

    def test_python_gives_no_warning(self):
        for path, text, _ in self.each():
            with self.subTest(path.name), warnings.catch_warnings():
                warnings.simplefilter("error")
                compile(text, path.name, "exec")

    def test_statements(self):
        barred = (ast.Global, ast.AsyncFunctionDef, ast.AsyncFor, ast.AsyncWith, ast.Await, ast.Import)
        for path, _, tree in self.each():
            for node in ast.walk(tree):
                with self.subTest(path=path.name, line=getattr(node, "lineno", 0)):
                    self.assertNotIsInstance(node, barred)
            for node in tree.body:
                with self.subTest(path=path.name, line=node.lineno):
                    self.assertIsInstance(node, (ast.Expr, ast.ImportFrom, ast.FunctionDef, ast.ClassDef, ast.Assign))

    def test_values_at_module_level(self):
        names = {}
        for path, _, tree in self.each():
            for node in tree.body:
                if isinstance(node, ast.Assign):
                    with self.subTest(path=path.name, line=node.lineno):
                        self.assertIsInstance(node.targets[0], ast.Name)
                        self.assertEqual(len(node.targets), 1)
                        # Fails for anything but plain values.
                        ast.literal_eval(node.value)
                        self.assertNotIn((path.name, node.targets[0].id), names)
                        names[path.name, node.targets[0].id] = True

    def test_names_of_imports_and_classes_have_no_other_meaning(self):
        for path, _, tree in self.each():
            taken = {node.name for node in tree.body if isinstance(node, ast.ClassDef)}
            functions = {node.name for node in tree.body if isinstance(node, ast.FunctionDef)}
            for node in tree.body:
                if isinstance(node, ast.ImportFrom):
                    taken |= {name.asname or name.name for name in node.names}
            self.assertEqual(taken & functions, set())
            for node in ast.walk(tree):
                with self.subTest(path=path.name, line=getattr(node, "lineno", 0)):
                    if isinstance(node, ast.arg):
                        self.assertNotIn(node.arg, taken)
                    if isinstance(node, ast.Name) and not isinstance(node.ctx, ast.Load):
                        self.assertNotIn(node.id, taken)

    def test_attributes_and_methods(self):
        """No name is both in one class, each attribute that is read is assigned, and none is a builtin value's."""
        assigned = set()
        methods = set()
        read = {}
        for path, _, tree in self.each():
            for node in ast.walk(tree):
                if isinstance(node, ast.ClassDef):
                    own = {part.name for part in node.body if isinstance(part, ast.FunctionDef)}
                    methods |= own
                    stored = {part.attr for part in ast.walk(node)
                              if isinstance(part, ast.Attribute) and isinstance(part.ctx, ast.Store)}
                    self.assertEqual(own & stored, set())
                if isinstance(node, ast.Attribute):
                    if isinstance(node.ctx, ast.Store):
                        assigned.add(node.attr)
                    else:
                        read.setdefault(node.attr, path.name)
        values = set()
        for value in ("", 0, [], {}, (), set(), b""):
            values |= {name for name in dir(value) if not name.startswith("_")}
        self.assertEqual(assigned & values, set())
        self.assertEqual(methods & values, set())
        self.assertEqual([(name, path) for name, path in read.items()
                          if name not in assigned | methods | VALUE_METHODS and not name.startswith("__")], [])

    def test_imports_of_the_package(self):
        """Each name comes from the very file that defines it, and no two files import from each other."""
        reached = {}
        defined = {}
        for path, _, tree in self.each():
            defined[f"twospeeds.{path.stem}"] = {node.name for node in tree.body
                                                 if isinstance(node, (ast.FunctionDef, ast.ClassDef))}
            reached[f"twospeeds.{path.stem}"] = {}
            for node in tree.body:
                if isinstance(node, ast.ImportFrom) and node.module.startswith("twospeeds."):
                    reached[f"twospeeds.{path.stem}"][node.module] = {name.name for name in node.names}
        for file, modules in reached.items():
            for module, names in modules.items():
                self.assertLessEqual(names, defined[module], file)
            waiting, met = list(modules), set()
            while waiting:
                module = waiting.pop()
                if module not in met:
                    met.add(module)
                    waiting += list(reached[module])
            self.assertNotIn(file, met)

    def test_no_import_is_unused(self):
        for path, _, tree in self.each():
            used = {node.id for node in ast.walk(tree) if isinstance(node, ast.Name)}
            for node in tree.body:
                if isinstance(node, ast.ImportFrom):
                    for name in node.names:
                        self.assertIn(name.name, used, path.name)

    def test_methods_of_builtin_values(self):
        own = set()
        for _, _, tree in self.each():
            own |= {node.name for node in ast.walk(tree) if isinstance(node, ast.FunctionDef)}
        for path, _, tree in self.each():
            for node in ast.walk(tree):
                if isinstance(node, ast.Call) and isinstance(node.func, ast.Attribute):
                    with self.subTest(path=path.name, line=node.lineno):
                        self.assertIn(node.func.attr, own | VALUE_METHODS | {"__init__"})

    def test_no_barred_words(self):
        for path, text, tree in self.each():
            names = [node.id for node in ast.walk(tree) if isinstance(node, ast.Name)]
            names += [node.attr for node in ast.walk(tree) if isinstance(node, ast.Attribute)]
            with self.subTest(path.name):
                self.assertEqual([name for name in names if BARRED.fullmatch(name)], [])
                self.assertLessEqual(set(DOUBLE_UNDERSCORE.findall(text)), {"__init__"})


if __name__ == "__main__":
    unittest.main()
