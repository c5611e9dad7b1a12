"""What can be seen of the rules of LANGUAGE.md by reading the package's files."""

import ast
import builtins
import pathlib
import re
import unittest

PACKAGE = pathlib.Path(__file__).resolve().parent.parent / "farpage"
PYTHONS_BUILTINS = {name for name in dir(builtins) if not name.startswith("_")}
BUILTINS = set(
    "len range enumerate zip min max sum abs sorted reversed int str bool bytes list tuple dict set frozenset "
    "isinstance ord repr any all divmod iter next super property staticmethod classmethod "
    "Exception ValueError TypeError KeyError IndexError LookupError ZeroDivisionError ArithmeticError OverflowError "
    "RuntimeError NotImplementedError AttributeError StopIteration NotImplemented".split()
)
METHODS = set(
    "append clear copy count endswith extend find get index insert isalnum isalpha isdigit islower isspace isupper "
    "items join keys ljust lower lstrip partition pop remove replace reverse rfind rjust rpartition rsplit rstrip "
    "setdefault split splitlines startswith strip update upper values zfill bit_length title capitalize swapcase "
    "casefold center expandtabs removeprefix removesuffix rindex isascii isdecimal isnumeric istitle isidentifier "
    "isprintable translate sort add discard".split()
)
BARRED_NAMES = set(
    "register mro elements open input version_info with_traceback add_note attrgetter breakpoint builtins compile "
    "copyright credits delattr dir eval exec exit gc getattr globals hasattr help id importlib license locals "
    "methodcaller os quit setattr type vars sys".split()
)
BARRED_WORDS = re.compile(
    r"\b(type|typing|typing_extensions|enum|Enum|IntEnum|StrEnum|Flag|IntFlag|Generic|Protocol|ABC|ABCMeta|namedtuple"
    r"|NamedTuple|TypedDict|TYPE_CHECKING|abstractmethod)\b|dataclass|overload|contextmanager"
)
BUILTIN_ATTRIBUTES = {name for kind in (str, int, list, tuple, dict, set, bytes) for name in dir(kind)}
FREE_ATTRIBUTES = set("count index title find get join lower upper split strip copy add".split())
BARRED_NODES = (ast.Global, ast.AsyncFunctionDef, ast.AsyncFor, ast.AsyncWith, ast.Await, ast.Import, ast.Div)


def package_files():
    return sorted(path for path in PACKAGE.rglob("*") if "__pycache__" not in path.parts)


def trees():
    return {path.name: ast.parse(path.read_text("utf-8")) for path in package_files()}


def bound_names(tree):
    """The names that a file gives a meaning to."""
    for node in ast.walk(tree):
        if isinstance(node, (ast.FunctionDef, ast.ClassDef)):
            yield node.name
        elif isinstance(node, ast.arg):
            yield node.arg
        elif isinstance(node, ast.alias):
            yield node.asname or node.name
        elif isinstance(node, ast.Name) and not isinstance(node.ctx, ast.Load):
            yield node.id
        elif isinstance(node, ast.ExceptHandler) and node.name:
            yield node.name


def own_methods():
    """The methods of all classes of the package, but those of double underscores."""
    return {
        method.name
        for tree in trees().values()
        for node in ast.walk(tree) if isinstance(node, ast.ClassDef)
        for method in node.body if isinstance(method, ast.FunctionDef) and not method.name.startswith("__")
    }


def imported_files(tree):
    return [node.module.split(".")[1] + ".py" for node in tree.body if isinstance(node, ast.ImportFrom)]


class TestFiles(unittest.TestCase):
    def test_names_and_kinds(self):
        self.assertIn("__init__.py", [path.name for path in package_files()])
        for path in package_files():
            self.assertRegex(path.name, r"^[a-z_][a-z0-9_]*\.py$")
            self.assertEqual(path.parent, PACKAGE)
            self.assertNotIn(path.stem, PYTHONS_BUILTINS)

    def test_signs_and_sizes(self):
        for path in package_files():
            text = path.read_text("utf-8")
            self.assertRegex(text, r"^[ -~\n]*\Z", path.name)
            self.assertLessEqual(len(text.splitlines()), 400, path.name)
            for line in text.splitlines():
                self.assertLessEqual(len(line), 120, line)
            self.assertIsNone(BARRED_WORDS.search(text), path.name)

    def test_functions_are_short(self):
        for name, tree in trees().items():
            for node in ast.walk(tree):
                if isinstance(node, ast.FunctionDef):
                    self.assertLessEqual(node.end_lineno - node.lineno + 1, 40, (name, node.name))


class TestModules(unittest.TestCase):
    def test_what_stands_at_module_level(self):
        allowed = (ast.ImportFrom, ast.FunctionDef, ast.ClassDef, ast.Assign)
        for name, tree in trees().items():
            self.assertIsNotNone(ast.get_docstring(tree), name)
            for node in tree.body[1:]:
                self.assertIsInstance(node, allowed, (name, node.lineno))
                if isinstance(node, ast.Assign):
                    calls = [one for one in ast.walk(node) if isinstance(one, (ast.Call, ast.Lambda, ast.ListComp))]
                    self.assertEqual(calls, [], (name, node.lineno))

    def test_imports_stand_on_top_and_name_the_package(self):
        for name, tree in trees().items():
            kinds = [isinstance(node, ast.ImportFrom) for node in tree.body[1:]]
            self.assertEqual(kinds, sorted(kinds, reverse=True), name)
            within = [node for node in ast.walk(tree) if isinstance(node, ast.ImportFrom)]
            self.assertEqual(len(within), sum(kinds), name)
            for node in within:
                self.assertEqual(node.level, 0, name)
                self.assertRegex(node.module, r"^farpage\.[a-z_]+$", name)
                self.assertTrue((PACKAGE / (node.module.split(".")[1] + ".py")).exists(), node.module)

    def test_imported_names_are_defined_where_they_are_named(self):
        files = trees()
        for name, tree in files.items():
            for node in tree.body:
                if isinstance(node, ast.ImportFrom):
                    home = files[node.module.split(".")[1] + ".py"]
                    defined = [one.name for one in home.body if isinstance(one, (ast.FunctionDef, ast.ClassDef))]
                    for one in home.body:
                        if isinstance(one, ast.Assign):
                            defined.extend(target.id for target in one.targets)
                    for alias in node.names:
                        self.assertIn(alias.name, defined, name)

    def test_no_files_import_from_each_other(self):
        graph = {name: imported_files(tree) for name, tree in trees().items()}
        for start in graph:
            reached, due = set(), list(graph[start])
            while due:
                one = due.pop()
                if one not in reached:
                    reached.add(one)
                    due.extend(graph[one])
            self.assertNotIn(start, reached)

    def test_module_level_names_are_bound_once(self):
        for name, tree in trees().items():
            bound = []
            for node in tree.body:
                if isinstance(node, (ast.FunctionDef, ast.ClassDef)):
                    bound.append(node.name)
                elif isinstance(node, ast.ImportFrom):
                    bound.extend(alias.asname or alias.name for alias in node.names)
                elif isinstance(node, ast.Assign):
                    bound.extend(target.id for target in node.targets)
            self.assertEqual(len(bound), len(set(bound)), name)


class TestCode(unittest.TestCase):
    def test_names(self):
        for name, tree in trees().items():
            for bound in bound_names(tree):
                self.assertNotIn(bound, PYTHONS_BUILTINS, name)
                self.assertNotIn(bound, BARRED_NAMES, name)
                if not (bound.startswith("__") and bound.endswith("__")):
                    self.assertRegex(bound, r"^[A-Za-z][A-Za-z0-9_]*$", name)

    def test_no_local_name_is_that_of_a_class_or_an_import(self):
        for name, tree in trees().items():
            taken = {node.name for node in ast.walk(tree) if isinstance(node, ast.ClassDef)}
            taken |= {alias.name for node in tree.body if isinstance(node, ast.ImportFrom) for alias in node.names}
            for node in ast.walk(tree):
                if isinstance(node, ast.FunctionDef):
                    inner = {bound for statement in node.body for bound in bound_names(statement)}
                    inner |= {argument.arg for argument in ast.walk(node.args) if isinstance(argument, ast.arg)}
                    self.assertEqual(inner & taken, set(), (name, node.name))

    def test_builtins(self):
        for name, tree in trees().items():
            for node in ast.walk(tree):
                if isinstance(node, ast.Name) and node.id in PYTHONS_BUILTINS:
                    self.assertIn(node.id, BUILTINS, (name, node.lineno))

    def test_methods(self):
        own = own_methods()
        for name, tree in trees().items():
            for node in ast.walk(tree):
                if isinstance(node, ast.Call) and isinstance(node.func, ast.Attribute):
                    self.assertIn(node.func.attr, METHODS | own, (name, node.lineno))

    def test_attributes(self):
        nodes = [node for tree in trees().values() for node in ast.walk(tree) if isinstance(node, ast.Attribute)]
        assigned = {node.attr for node in nodes if isinstance(node.ctx, ast.Store)}
        called = METHODS | own_methods()
        self.assertEqual(assigned & own_methods(), set())
        self.assertEqual(assigned & (BUILTIN_ATTRIBUTES - FREE_ATTRIBUTES), set())
        self.assertEqual(assigned & BARRED_NAMES, set())
        self.assertEqual({node.attr for node in nodes} - assigned - called, set())

    def test_own_methods_have_no_name_of_builtin_values_that_is_barred(self):
        self.assertEqual(own_methods() & (BUILTIN_ATTRIBUTES - METHODS), set())

    def test_statements_and_values(self):
        for name, tree in trees().items():
            for node in ast.walk(tree):
                self.assertNotIsInstance(node, BARRED_NODES, name)
                if isinstance(node, ast.Constant):
                    self.assertNotIsInstance(node.value, (float, complex), name)
                    self.assertNotIn("%", str(node.value), name)
                if isinstance(node, ast.Compare):
                    for sign, side in zip(node.ops, node.comparators):
                        if isinstance(sign, (ast.Is, ast.IsNot)):
                            self.assertIn(ast.unparse(side), ("None", "True", "False"), (name, node.lineno))
                if isinstance(node, ast.ExceptHandler):
                    self.assertIsNotNone(node.type, (name, node.lineno))

    def test_no_decorators_over_functions_and_classes(self):
        for name, tree in trees().items():
            for node in tree.body:
                if isinstance(node, (ast.FunctionDef, ast.ClassDef)):
                    self.assertEqual(node.decorator_list, [], (name, node.name))


if __name__ == "__main__":
    unittest.main()
