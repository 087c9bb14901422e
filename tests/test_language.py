"""The rules of the language that can be seen in the text of the files, and the layout of the package."""

import ast
import builtins
import pathlib
import re
import unittest

PACKAGE = pathlib.Path(__file__).resolve().parent.parent / "rowsmeet"

# The modules of the interface, in its order; further ones may stand between.
MODULES = ["errors", "boxes", "books", "rules", "asking", "firmness", "orders", "forms", "matter", "entry", "logs",
           "unknown", "house", "texts", "desk"]

BANNED_WORDS = re.compile(
    r"\b(type|typing|typing_extensions|enum|Enum|IntEnum|StrEnum|Flag|IntFlag|Generic|Protocol|ABC|ABCMeta|namedtuple"
    r"|NamedTuple|TypedDict|TYPE_CHECKING|abstractmethod)\b|dataclass|overload|contextmanager"
)

BUILTINS = set(
    "len range enumerate zip min max sum abs sorted reversed int str bool list tuple dict set isinstance ord repr any "
    "all divmod iter next super property ValueError TypeError KeyError NotImplemented".split()
)

STATEMENTS = (
    ast.Assign, ast.AugAssign, ast.If, ast.While, ast.For, ast.Return, ast.Break, ast.Continue, ast.Pass, ast.Raise,
    ast.Assert, ast.Delete, ast.Match, ast.With, ast.Try, ast.Expr, ast.FunctionDef, ast.ClassDef, ast.ImportFrom,
)


def texts():
    """The text of each file of the package, by its name."""
    return {path.name: path.read_text(encoding="utf-8") for path in sorted(PACKAGE.glob("*.py"))}


def nodes(kind):
    """All parts of this kind of all files: pairs (file name, node)."""
    return [(name, node) for name, text in texts().items() for node in ast.walk(ast.parse(text)) if isinstance(node, kind)]


def imported(text):
    """The modules from which a file imports."""
    return [node.module for node in ast.walk(ast.parse(text)) if isinstance(node, ast.ImportFrom)]


class Layout(unittest.TestCase):
    def test_the_package_holds_only_its_files(self):
        for path in PACKAGE.iterdir():
            if path.name != "__pycache__":
                self.assertRegex(path.name, r"^[a-z_][a-z0-9_]*\.py$")
                self.assertFalse(path.name.startswith("test"), path.name)

    def test_the_package_itself_defines_nothing(self):
        self.assertEqual(ast.parse(texts()["__init__.py"]).body, [])

    def test_files_lines_and_functions_are_short(self):
        for name, text in texts().items():
            self.assertLessEqual(len(text.splitlines()), 399, name)
            self.assertLessEqual(max([len(line) for line in text.splitlines()], default=0), 120, name)
        for name, node in nodes(ast.FunctionDef):
            self.assertLessEqual(node.end_lineno - node.lineno + 1, 40, (name, node.name))

    def test_plain_characters_and_words(self):
        for name, text in texts().items():
            self.assertIsNone(re.search(r"[^\n -~]", text), name)
            self.assertIsNone(BANNED_WORDS.search(text), name)


class Imports(unittest.TestCase):
    def test_only_files_of_the_package_are_imported(self):
        self.assertEqual(nodes(ast.Import), [])
        for name, text in texts().items():
            for module in imported(text):
                self.assertIn(module.replace("rowsmeet.", "", 1) + ".py", texts(), name)

    def test_only_modules_that_are_listed_ahead_are_used(self):
        # A further module counts with all that it uses itself.
        used = {name[:-3]: {module.split(".")[1] for module in imported(text)} for name, text in texts().items()}
        for at, module in enumerate(MODULES):
            reached, waiting = set(), [module]
            while waiting:
                for other in used[waiting.pop()] - reached:
                    reached.add(other)
                    waiting.append(other)
            self.assertEqual(reached & set(MODULES[at:]), set(), module)

    def test_imported_names_are_defined_where_they_come_from(self):
        defined = {}
        for name, text in texts().items():
            body = ast.parse(text).body
            defined[name] = {node.name for node in body if isinstance(node, (ast.FunctionDef, ast.ClassDef))}
            defined[name] |= {node.targets[0].id for node in body if isinstance(node, ast.Assign)}
        for name, node in nodes(ast.ImportFrom):
            for alias in node.names:
                self.assertIn(alias.name, defined[node.module.split(".")[1] + ".py"], name)
                self.assertIsNone(alias.asname)


class Language(unittest.TestCase):
    def test_statements(self):
        for name, node in nodes(ast.stmt):
            self.assertIsInstance(node, STATEMENTS, (name, node.lineno))

    def test_decorators(self):
        for name, node in nodes((ast.FunctionDef, ast.ClassDef)):
            for decorator in node.decorator_list:
                self.assertEqual(ast.unparse(decorator), "property", (name, node.name))

    def test_only_allowed_builtins(self):
        for name, node in nodes(ast.Name):
            if node.id in vars(builtins):
                self.assertIn(node.id, BUILTINS, (name, node.lineno))
                self.assertIsInstance(node.ctx, ast.Load, (name, node.lineno))
        for name, node in nodes(ast.arg):
            self.assertNotIn(node.arg, vars(builtins), (name, node.lineno))

    def test_no_name_begins_with_an_underscore(self):
        for name, node in nodes((ast.Name, ast.Attribute, ast.arg)):
            word = node.id if isinstance(node, ast.Name) else node.attr if isinstance(node, ast.Attribute) else node.arg
            self.assertTrue(not word.startswith("_") or word == "__init__", (name, word))

    def test_no_variable_has_the_name_of_a_class_or_an_import_of_its_file(self):
        for name, text in texts().items():
            parts = list(ast.walk(ast.parse(text)))
            taken = {alias.name for node in parts if isinstance(node, ast.ImportFrom) for alias in node.names}
            taken |= {node.name for node in parts if isinstance(node, ast.ClassDef)}
            stored = {node.id for node in parts if isinstance(node, ast.Name) and isinstance(node.ctx, ast.Store)}
            self.assertEqual(taken & (stored | {node.arg for node in parts if isinstance(node, ast.arg)}), set(), name)

    def test_is_stands_only_beside_none_and_truth(self):
        for name, node in nodes(ast.Compare):
            for sign, right in zip(node.ops, node.comparators):
                if isinstance(sign, (ast.Is, ast.IsNot)):
                    self.assertIsInstance(right, ast.Constant, (name, node.lineno))
                    self.assertIn(right.value, (None, True, False))

    def test_numbers_and_strings(self):
        self.assertEqual(nodes((ast.Div, ast.GeneratorExp)), [])
        for name, node in nodes(ast.Constant):
            self.assertNotIsInstance(node.value, (float, complex), (name, node.lineno))
            self.assertNotIn("%", str(node.value), (name, node.lineno))

    def test_no_other_function_has_the_name_of_a_generator(self):
        functions = [node for name, node in nodes(ast.FunctionDef)]
        generators = [node.name for node in functions if any(isinstance(part, ast.Yield) for part in ast.walk(node))]
        self.assertEqual(generators, ["entries"])
        for name in generators:
            self.assertEqual([node.name for node in functions].count(name), 1)

    def test_no_name_is_both_a_method_and_an_attribute(self):
        methods = set()
        for name, owner in nodes(ast.ClassDef):
            methods |= {node.name for node in owner.body if isinstance(node, ast.FunctionDef)}
        stored = {node.attr for name, node in nodes(ast.Attribute) if isinstance(node.ctx, ast.Store)}
        self.assertEqual(methods & stored, set())


if __name__ == "__main__":
    unittest.main()
