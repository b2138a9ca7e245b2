"""The rules of the Python subset that can be read off the package's files one by one."""

import ast
import builtins
import pathlib
import unittest

PACKAGE = pathlib.Path(__file__).resolve().parent.parent / "ringlaps"

ALLOWED_BUILTINS = """
    len range enumerate zip min max sum abs sorted reversed int str bool bytes list tuple dict set
    frozenset isinstance ord repr any all divmod pow iter next map
    Exception ValueError TypeError KeyError IndexError LookupError ZeroDivisionError ArithmeticError
    OverflowError RuntimeError NotImplementedError AttributeError StopIteration NotImplemented
""".split()

ALLOWED_METHODS = """
    append clear copy count endswith extend find get index insert isalnum isalpha isdigit islower
    isspace isupper items join keys ljust lower lstrip partition pop remove replace reverse rfind
    rjust rpartition rsplit rstrip setdefault split splitlines startswith strip update upper values
    zfill bit_length
""".split()

# The name _ is none of Python's own, but doctest leaves it among them.
BUILTINS = set(dir(builtins)) - {"_"}

BARRED_NODES = (
    ast.AsyncFunctionDef,
    ast.AsyncFor,
    ast.AsyncWith,
    ast.Await,
    ast.Import,
    ast.Div,
    ast.MatMult,
)


def sources():
    return sorted(PACKAGE.rglob("*.py"))


def bound_names(tree):
    """Return the names that the module binds anywhere: variables, parameters, functions, imports."""
    names = set()
    for node in ast.walk(tree):
        if isinstance(node, ast.Name) and is_target(node):
            names.add(node.id)
        elif isinstance(node, ast.arg):
            names.add(node.arg)
        elif isinstance(node, (ast.FunctionDef, ast.ClassDef, ast.MatchAs)) and node.name:
            names.add(node.name)
        elif isinstance(node, ast.alias):
            names.add(node.asname or node.name)
    return names


def is_target(name):
    return not isinstance(name.ctx, ast.Load)


def method_names(tree):
    classes = [node for node in ast.walk(tree) if isinstance(node, ast.ClassDef)]
    return {item.name for node in classes for item in node.body if isinstance(item, ast.FunctionDef)}


def imports(tree):
    return [node for node in ast.walk(tree) if isinstance(node, ast.ImportFrom)]


class LanguageTest(unittest.TestCase):
    def check_each_tree(self, check):
        for path in sources():
            with self.subTest(path=path.name):
                check(ast.parse(path.read_text(encoding="utf-8")))

    def test_the_folder_holds_only_sources(self):
        others = [
            path.name
            for path in PACKAGE.rglob("*")
            if path.is_file() and path.suffix != ".py" and "__pycache__" not in path.parts
        ]
        self.assertEqual(others, [])
        self.assertTrue((PACKAGE / "__init__.py").is_file())

    def test_sizes_and_characters(self):
        for path in sources():
            with self.subTest(path=path.name):
                text = path.read_text(encoding="utf-8")
                self.assertEqual([c for c in text if c != "\n" and not " " <= c <= "~"], [])
                lines = text.split("\n")
                self.assertLess(len(lines), 400)
                self.assertLessEqual(max(len(line) for line in lines), 120)

    def test_functions_are_short_and_undecorated(self):
        def check(tree):
            for node in ast.walk(tree):
                if isinstance(node, (ast.FunctionDef, ast.ClassDef)):
                    self.assertEqual(node.decorator_list, [])
                if isinstance(node, ast.FunctionDef):
                    self.assertLessEqual(node.end_lineno - node.lineno + 1, 40, node.name)

        self.check_each_tree(check)

    def test_imports_name_the_defining_file(self):
        def check(tree):
            for node in imports(tree):
                self.assertEqual(node.level, 0)
                self.assertTrue(node.module.startswith("ringlaps."), node.module)
                path = PACKAGE / (node.module.split(".")[1] + ".py")
                top = ast.parse(path.read_text(encoding="utf-8")).body
                defined = {item.name for item in top if isinstance(item, (ast.FunctionDef, ast.ClassDef))}
                for item in top:
                    if isinstance(item, ast.Assign):
                        defined.update(target.id for target in item.targets)
                for alias in node.names:
                    self.assertIn(alias.name, defined)

        self.check_each_tree(check)

    def test_no_two_files_import_each_other(self):
        reached = {}
        for path in sources():
            tree = ast.parse(path.read_text(encoding="utf-8"))
            reached[path.stem] = {node.module.split(".")[1] for node in imports(tree)}
        for _ in reached:
            for name, others in reached.items():
                reached[name] = others.union(*[reached[other] for other in others])
        for name, others in reached.items():
            self.assertNotIn(name, others)

    def test_only_the_builtins_of_the_subset(self):
        def check(tree):
            names = {node.id for node in ast.walk(tree) if isinstance(node, ast.Name)}
            barred = BUILTINS - set(ALLOWED_BUILTINS)
            self.assertEqual(sorted(names & barred), [])
            self.assertEqual(sorted((bound_names(tree) - method_names(tree)) & BUILTINS), [])

        self.check_each_tree(check)

    def test_imports_and_classes_keep_their_names(self):
        def check(tree):
            names = [node.id for node in ast.walk(tree) if isinstance(node, ast.Name) and is_target(node)]
            names += [node.arg for node in ast.walk(tree) if isinstance(node, ast.arg)]
            taken = [alias.asname or alias.name for node in imports(tree) for alias in node.names]
            taken += [node.name for node in tree.body if isinstance(node, ast.ClassDef)]
            self.assertEqual(len(taken), len(set(taken)))
            self.assertEqual(sorted(set(names) & set(taken)), [])

        self.check_each_tree(check)

    def test_only_the_methods_of_the_subset(self):
        own = set()
        for path in sources():
            own |= method_names(ast.parse(path.read_text(encoding="utf-8")))

        def check(tree):
            calls = [node.func for node in ast.walk(tree) if isinstance(node, ast.Call)]
            names = {func.attr for func in calls if isinstance(func, ast.Attribute)}
            self.assertEqual(sorted(names - own - set(ALLOWED_METHODS)), [])

        self.check_each_tree(check)

    def test_no_barred_syntax_and_no_float(self):
        def check(tree):
            for node in ast.walk(tree):
                self.assertNotIsInstance(node, BARRED_NODES)
                if isinstance(node, ast.Constant):
                    self.assertNotIsInstance(node.value, (float, complex))

        self.check_each_tree(check)


if __name__ == "__main__":
    unittest.main()
