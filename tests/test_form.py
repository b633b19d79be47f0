"""The form that ../shared/LANGUAGE.md asks of the package, as far as it is quickly seen; where things are defined."""

import ast
import os
import re
import unittest

PACKAGE = os.path.join(os.path.dirname(os.path.dirname(os.path.abspath(__file__))), "walkrooms")
INTERFACE = {
    "errors.py": ("RoomError", "NoHouse", "NoText", "NoStep", "Nothing", "Again", "TooMany", "NoRow", "NoName"),
    "names.py": ("is_name", "is_private", "base_of"),
    "houses.py": ("is_house", "parts_in", "deep", "free_in", "bound_in", "called"),
    "texts.py": ("shown",),
}
BUILTINS = set("""len range enumerate zip min max sum abs sorted reversed int str bool bytes list tuple dict set frozenset
    isinstance ord repr any all divmod iter next super property staticmethod classmethod object float
    Exception ValueError TypeError KeyError IndexError LookupError ZeroDivisionError ArithmeticError OverflowError RuntimeError
    NotImplementedError AttributeError StopIteration NotImplemented""".split())
BARRED_WORDS = re.compile(
    r"\b(type|typing|typing_extensions|enum|Enum|IntEnum|StrEnum|Flag|IntFlag|Generic|Protocol|ABC|ABCMeta|namedtuple"
    r"|NamedTuple|TypedDict|TYPE_CHECKING|abstractmethod)\b|dataclass|overload|contextmanager")
BARRED_STATEMENTS = (ast.Global, ast.AsyncFunctionDef, ast.AsyncFor, ast.AsyncWith, ast.Import, ast.Div)


def sources():
    """The files of the package with their texts, sorted."""
    names = sorted(name for name in os.listdir(PACKAGE) if name != "__pycache__")
    told = []
    for name in names:
        with open(os.path.join(PACKAGE, name), encoding="utf-8") as file:
            told.append((name, file.read()))
    return told


def bound_names(tree):
    """All names that a file binds anywhere."""
    told = set()
    for node in ast.walk(tree):
        if isinstance(node, (ast.FunctionDef, ast.ClassDef)):
            told.add(node.name)
        elif isinstance(node, ast.arg):
            told.add(node.arg)
        elif isinstance(node, ast.Name) and not isinstance(node.ctx, ast.Load):
            told.add(node.id)
        elif isinstance(node, ast.alias):
            told.add(node.asname or node.name)
        elif isinstance(node, (ast.ExceptHandler, ast.MatchAs, ast.MatchStar)) and node.name:
            told.add(node.name)
    return told


class Form(unittest.TestCase):
    def test_the_folder_holds_plain_files_alone(self):
        names = [name for name, text in sources()]
        self.assertIn("__init__.py", names)
        for name in names:
            self.assertRegex(name, r"^(__init__|__main__|[a-z][a-z0-9_]*)\.py$")

    def test_sizes_and_signs(self):
        for name, text in sources():
            rows = text.splitlines()
            self.assertLessEqual(len(rows), 399, name)
            for at, row in enumerate(rows, start=1):
                self.assertLessEqual(len(row), 120, (name, at))
                self.assertRegex(row, r"^[ -~]*$", (name, at))
                self.assertIsNone(BARRED_WORDS.search(row), (name, at))

    def test_functions_are_small(self):
        for name, text in sources():
            for node in ast.walk(ast.parse(text)):
                if isinstance(node, ast.FunctionDef):
                    self.assertLessEqual(node.end_lineno - node.lineno + 1, 40, (name, node.name))

    def test_statements_and_imports(self):
        for name, text in sources():
            for node in ast.walk(ast.parse(text)):
                if name != "__main__.py":
                    self.assertNotIsInstance(node, BARRED_STATEMENTS, name)
                if isinstance(node, ast.ImportFrom):
                    self.assertEqual(node.level, 0, name)
                    self.assertTrue(node.module == "__future__" or node.module.startswith("walkrooms."), name)
                if isinstance(node, ast.Constant):
                    self.assertNotIsInstance(node.value, (float, complex), name)

    def test_names_are_bound_or_listed(self):
        for name, text in sources():
            tree = ast.parse(text)
            bound = bound_names(tree)
            # A method may be called next.
            self.assertEqual(sorted(bound & BUILTINS - {"next"}), [], name)
            for node in ast.walk(tree):
                if isinstance(node, ast.Name) and name != "__main__.py":
                    self.assertIn(node.id, bound | BUILTINS, name)

    def test_the_interface_is_defined_where_it_is_listed(self):
        texts = dict(sources())
        for name, wanted in INTERFACE.items():
            defined = [node.name for node in ast.parse(texts[name]).body if isinstance(node, (ast.FunctionDef, ast.ClassDef))]
            for thing in wanted:
                self.assertIn(thing, defined, name)


if __name__ == "__main__":
    unittest.main()
