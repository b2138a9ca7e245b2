"""The rules of the Python subset that can be read off the package's files one by one."""

import ast
import builtins
import pathlib
import re
import unittest

PACKAGE = pathlib.Path(__file__).resolve().parent.parent / "ringlaps"

ALLOWED_BUILTINS = """
    len range enumerate zip min max sum abs sorted reversed int str bool bytes list tuple dict set
    frozenset isinstance ord repr any all divmod pow iter next map
    Exception ValueError TypeError KeyError IndexError LookupError ZeroDivisionError ArithmeticError
    OverflowError RuntimeError NotImplementedError AttributeError StopIteration NotImplemented
""".split()

ALLOWED_METHODS = """
    append clear copy count endswith extend find get index insert isalnum isalpha isdigit islower
    isspace isupper items join keys ljust lower lstrip partition pop remove replace reverse rfind
    rjust rpartition rsplit rstrip setdefault split splitlines startswith strip update upper values
    zfill bit_length
""".split()

# The name _ is none of Python's own, but doctest leaves it among them.
BUILTINS = set(dir(builtins)) - {"_"}

BARRED_NODES = (
    ast.AsyncFunctionDef,
    ast.AsyncFor,
    ast.AsyncWith,
    ast.Await,
    ast.Import,
    ast.Div,
    ast.MatMult,
)

# The forms of L12; the names with two underscores on both sides are those of L5 and L8.
PLAIN_NAME = re.compile("_?[A-Za-z][A-Za-z0-9_]*|__[a-z]+__")

# No name begins with one of these, but an attribute or a method may begin with the leave.
KEPT_BEGINNINGS = tuple(
    "_wall _pe_ _dcw_ _enum_ _cm_ _twin_re_ _lay_ _law_ _stub_ _sre _WallAttr".split()
)
LEAVE = "_wall"

KEPT_NAME = re.compile("(_cold|_tuplegetter|_outside|_record|_written_out|_member_names)[0-9_]*")

# These stand nowhere in a file, also not in comments and strings.
KEPT_WORD = re.compile(r"\b(?:_wall|_WallAttr)\b")


def sources():
    return sorted(PACKAGE.rglob("*.py"))


def bound_names(tree):
    """Return the names that the module binds anywhere: variables, parameters, functions, imports."""
    names = set()
    for node in ast.walk(tree):
        if isinstance(node, ast.Name) and is_target(node):
            names.add(node.id)
        elif isinstance(node, ast.arg):
            names.add(node.arg)
        elif isinstance(node, (ast.FunctionDef, ast.ClassDef, ast.MatchAs)) and node.name:
            names.add(node.name)
        elif isinstance(node, ast.alias):
            names.add(node.asname or node.name)
    return names


def is_target(name):
    return not isinstance(name.ctx, ast.Load)


def method_names(tree):
    classes = [node for node in ast.walk(tree) if isinstance(node, ast.ClassDef)]
    return {item.name for node in classes for item in node.body if isinstance(item, ast.FunctionDef)}


def imports(tree):
    return [node for node in ast.walk(tree) if isinstance(node, ast.ImportFrom)]


def words_of(node):
    """Return the names that stand in the node itself, not in the nodes below it."""
    words = []
    for _, value in ast.iter_fields(node):
        for item in value if isinstance(value, list) else [value]:
            if isinstance(item, str):
                words += item.split(".")
    return words


def binds_blank(node):
    """Return whether the node gives the name _ to what is not needed, which L12 allows."""
    if isinstance(node, ast.Name):
        return node.id == "_" and is_target(node)
    return isinstance(node, ast.arg) and node.arg == "_"


def names_of(tree):
    """Return pairs: each name of the module, and whether it names an attribute or a method."""
    classes = [node for node in ast.walk(tree) if isinstance(node, ast.ClassDef)]
    methods = [item for node in classes for item in node.body if isinstance(item, ast.FunctionDef)]
    names = []
    for node in ast.walk(tree):
        if not isinstance(node, ast.Constant) and not binds_blank(node):
            on_object = isinstance(node, (ast.Attribute, ast.MatchClass)) or node in methods
            names += [(word, on_object) for word in words_of(node)]
    return names


def strings_of(tree):
    """Return the strings of the module: a slot, and what getattr reads, is named by a string."""
    values = [node.value for node in ast.walk(tree) if isinstance(node, ast.Constant)]
    return [value for value in values if isinstance(value, str)]


def is_kept(name, on_object):
    """Return whether L12 keeps the name for something else."""
    if on_object and name.startswith(LEAVE):
        return False
    return name.startswith(KEPT_BEGINNINGS) or KEPT_NAME.fullmatch(name) is not None


def barred_names(text):
    """Return, in order, the names and words in the text of a file that L12 forbids."""
    tree = ast.parse(text)
    names = names_of(tree)
    found = {name for name, _ in names if not PLAIN_NAME.fullmatch(name)}
    found.update(name for name, on_object in names if is_kept(name, on_object))
    found.update(value for value in strings_of(tree) if value.isidentifier() and is_kept(value, True))
    classes = [node.name for node in ast.walk(tree) if isinstance(node, ast.ClassDef)]
    found.update(name for name in classes if name.startswith("_"))
    found.update(KEPT_WORD.findall(text))
    return sorted(found)


class LanguageTest(unittest.TestCase):
    def check_each_tree(self, check):
        for path in sources():
            with self.subTest(path=path.name):
                check(ast.parse(path.read_text(encoding="utf-8")))

    def test_the_folder_holds_only_sources(self):
        others = [
            path.name
            for path in PACKAGE.rglob("*")
            if path.is_file() and path.suffix != ".py" and "__pycache__" not in path.parts
        ]
        self.assertEqual(others, [])
        self.assertTrue((PACKAGE / "__init__.py").is_file())

    def test_sizes_and_characters(self):
        for path in sources():
            with self.subTest(path=path.name):
                text = path.read_text(encoding="utf-8")
                self.assertEqual([c for c in text if c != "\n" and not " " <= c <= "~"], [])
                lines = text.split("\n")
                self.assertLess(len(lines), 400)
                self.assertLessEqual(max(len(line) for line in lines), 120)

    def test_functions_are_short_and_undecorated(self):
        def check(tree):
            for node in ast.walk(tree):
                if isinstance(node, (ast.FunctionDef, ast.ClassDef)):
                    self.assertEqual(node.decorator_list, [])
                if isinstance(node, ast.FunctionDef):
                    self.assertLessEqual(node.end_lineno - node.lineno + 1, 40, node.name)

        self.check_each_tree(check)

    def test_imports_name_the_defining_file(self):
        def check(tree):
            for node in imports(tree):
                self.assertEqual(node.level, 0)
                self.assertTrue(node.module.startswith("ringlaps."), node.module)
                path = PACKAGE / (node.module.split(".")[1] + ".py")
                top = ast.parse(path.read_text(encoding="utf-8")).body
                defined = {item.name for item in top if isinstance(item, (ast.FunctionDef, ast.ClassDef))}
                for item in top:
                    if isinstance(item, ast.Assign):
                        defined.update(target.id for target in item.targets)
                for alias in node.names:
                    self.assertIn(alias.name, defined)

        self.check_each_tree(check)

    def test_no_two_files_import_each_other(self):
        reached = {}
        for path in sources():
            tree = ast.parse(path.read_text(encoding="utf-8"))
            reached[path.stem] = {node.module.split(".")[1] for node in imports(tree)}
        for _ in reached:
            for name, others in reached.items():
                reached[name] = others.union(*[reached[other] for other in others])
        for name, others in reached.items():
            self.assertNotIn(name, others)

    def test_only_the_builtins_of_the_subset(self):
        def check(tree):
            names = {node.id for node in ast.walk(tree) if isinstance(node, ast.Name)}
            barred = BUILTINS - set(ALLOWED_BUILTINS)
            self.assertEqual(sorted(names & barred), [])
            self.assertEqual(sorted((bound_names(tree) - method_names(tree)) & BUILTINS), [])

        self.check_each_tree(check)

    def test_imports_and_classes_keep_their_names(self):
        def check(tree):
            names = [node.id for node in ast.walk(tree) if isinstance(node, ast.Name) and is_target(node)]
            names += [node.arg for node in ast.walk(tree) if isinstance(node, ast.arg)]
            taken = [alias.asname or alias.name for node in imports(tree) for alias in node.names]
            taken += [node.name for node in tree.body if isinstance(node, ast.ClassDef)]
            self.assertEqual(len(taken), len(set(taken)))
            self.assertEqual(sorted(set(names) & set(taken)), [])

        self.check_each_tree(check)

    def test_only_the_methods_of_the_subset(self):
        own = set()
        for path in sources():
            own |= method_names(ast.parse(path.read_text(encoding="utf-8")))

        def check(tree):
            calls = [node.func for node in ast.walk(tree) if isinstance(node, ast.Call)]
            names = {func.attr for func in calls if isinstance(func, ast.Attribute)}
            self.assertEqual(sorted(names - own - set(ALLOWED_METHODS)), [])

        self.check_each_tree(check)

    def test_no_barred_syntax_and_no_float(self):
        def check(tree):
            for node in ast.walk(tree):
                self.assertNotIsInstance(node, BARRED_NODES)
                if isinstance(node, ast.Constant):
                    self.assertNotIsInstance(node.value, (float, complex))

        self.check_each_tree(check)

    def test_only_plain_names(self):
        for path in sources():
            with self.subTest(path=path.name):
                self.assertEqual(barred_names(path.read_text(encoding="utf-8")), [])

    def test_names_that_are_kept_for_something_else_are_found(self):
        whole = "_cold _tuplegetter _outside _record _written_out _member_names".split()
        names = [name + end for name in whole for end in ("", "2", "_", "_2_")]
        names += [beginning + "x" for beginning in KEPT_BEGINNINGS if beginning != LEAVE]
        forms = (
            "{} = 1",
            "def {}():\n    pass",
            "def low({}):\n    pass",
            "def low(*, {}=1):\n    pass",
            "low({}=1)",
            "from ringlaps.circle import {}",
            "from ringlaps.circle import far as {}",
            "from ringlaps.{} import far",
            "try:\n    pass\nexcept KeyError as {}:\n    pass",
            "def low():\n    nonlocal {}",
            "match low:\n    case [{}, *rest]:\n        pass",
            "match low:\n    case [*{}]:\n        pass",
            "match low:\n    case Box({}=1):\n        pass",
            "low.{} = 1",
            "low = f'{{low.{}}}'",
            "class Box:\n    def {}(self):\n        pass",
            "class Box:\n    __slots__ = ('{}',)",
        )
        for form in forms:
            for name in names:
                with self.subTest(form=form, name=name):
                    self.assertEqual(barred_names(form.format(name)), [name])

    def test_only_an_attribute_or_a_method_may_begin_with_the_leave(self):
        for form in ("low._walls = 1", "class Box:\n    def _walls(self):\n        pass"):
            self.assertEqual(barred_names(form), [])
        for form in ("_walls = 1", "def _walls():\n    pass", "def low(_walls):\n    pass"):
            self.assertEqual(barred_names(form), ["_walls"])
        for word in ("_wall", "_WallAttr"):
            for form in ("low.{} = 1", "# See {}.", "low = 'a {} b'"):
                with self.subTest(form=form, word=word):
                    self.assertEqual(barred_names(form.format(word)), [word])

    def test_names_of_another_form_are_found(self):
        for name in ("__low", "_1", "_", "__", "h\u00f6he"):
            with self.subTest(name=name):
                self.assertEqual(barred_names(f"print({name})"), [name])
        self.assertEqual(barred_names("class _Box:\n    pass"), ["_Box"])

    def test_plain_names_are_let_through(self):
        names = "low _low _LIMIT record recorded _recorded _record_all _do_and_keep _laps _scold".split()
        for name in names:
            for form in ("{} = 1", "low.{} = 1", "class Box:\n    def {}(self):\n        pass"):
                with self.subTest(form=form, name=name):
                    self.assertEqual(barred_names(form.format(name)), [])
        self.assertEqual(barred_names("for _ in low:\n    first, _ = __name__, '_'"), [])


if __name__ == "__main__":
    unittest.main()
