"""The form that ../shared/LANGUAGE.md asks of the package, as far as it is quickly seen; where things are defined."""

import ast
import builtins
import os
import re
import unittest

PACKAGE = os.path.join(os.path.dirname(os.path.dirname(os.path.abspath(__file__))), "walkrooms")
INTERFACE = {
    "errors.py": ("RoomError", "NoHouse", "NoText", "NoStep", "Nothing", "Again", "TooMany", "NoRow", "NoName"),
    "names.py": ("is_name", "is_private", "base_of"),
    "houses.py": ("is_house", "parts_in", "deep", "free_in", "bound_in", "called"),
    "texts.py": ("shown",),
    "reading.py": ("read",),
    "stands.py": ("freed", "settled", "privates_in"),
    "sameness.py": ("is_renaming", "renaming", "same"),
    "steps.py": ("row_at", "steps_of", "step_done"),
    "walks.py": ("run", "Walk"),
    "ends.py": ("ends_of",),
    "tables.py": ("lets_table",),
    "least.py": ("least_table",),
    "meeting.py": ("may_come", "told_apart"),
    "kinds.py": ("keeps",),
    "telling.py": ("told_kinds",),
    "mail.py": ("is_mail", "mail_names", "mail_steps", "mail_done"),
    "boxes.py": ("house_of_mail", "mail_deeds"),
    "machines.py": ("next_state",),
    "building.py": ("house_of_machine", "machine_deeds"),
    "desk.py": ("Desk",),
}
CLASS_METHODS = {
    ("walks.py", "Walk"): ("__init__", "do", "undo", "stand", "log", "many", "behind"),
    ("desk.py", "Desk"): ("__init__", "say"),
}
BUILTINS = set("""len range enumerate zip min max sum abs sorted reversed int str bool bytes list tuple dict set frozenset
    isinstance ord repr any all divmod iter next super property staticmethod classmethod object float
    Exception ValueError TypeError KeyError IndexError LookupError ZeroDivisionError ArithmeticError OverflowError RuntimeError
    NotImplementedError AttributeError StopIteration NotImplemented""".split())
BARRED_WORDS = re.compile(
    r"\b(type|typing|typing_extensions|enum|Enum|IntEnum|StrEnum|Flag|IntFlag|Generic|Protocol|ABC|ABCMeta|namedtuple"
    r"|NamedTuple|TypedDict|TYPE_CHECKING|abstractmethod)\b|dataclass|overload|contextmanager")
# L25: what is called on texts, lists and dicts.
METHODS = set("""append clear copy count endswith extend find get index insert isalnum isalpha isdigit islower isspace isupper
    items join keys ljust lower lstrip partition pop remove replace reverse rfind rjust rpartition rsplit rstrip setdefault split
    splitlines startswith strip update upper values zfill bit_length sort add discard __init__""".split())
BARRED_NAMES = set("""register mro elements open input law version_info with_traceback add_note attrgetter builtins gc importlib
    methodcaller os sys""".split())
BARRED_STATEMENTS = (ast.Global, ast.AsyncFunctionDef, ast.AsyncFor, ast.AsyncWith, ast.Import, ast.Div)


def sources():
    """The files of the package with their texts, sorted."""
    names = sorted(name for name in os.listdir(PACKAGE) if name != "__pycache__")
    told = []
    for name in names:
        with open(os.path.join(PACKAGE, name), encoding="utf-8") as file:
            told.append((name, file.read()))
    return told


def bound_names(tree):
    """All names that a file binds anywhere."""
    told = set()
    for node in ast.walk(tree):
        if isinstance(node, (ast.FunctionDef, ast.ClassDef)):
            told.add(node.name)
        elif isinstance(node, ast.arg):
            told.add(node.arg)
        elif isinstance(node, ast.Name) and not isinstance(node.ctx, ast.Load):
            told.add(node.id)
        elif isinstance(node, ast.alias):
            told.add(node.asname or node.name)
        elif isinstance(node, (ast.ExceptHandler, ast.MatchAs, ast.MatchStar)) and node.name:
            told.add(node.name)
    return told


def defined_methods(trees):
    """The names of all methods."""
    return {node.name for tree in trees for owner in ast.walk(tree) if isinstance(owner, ast.ClassDef)
            for node in owner.body if isinstance(node, ast.FunctionDef)}


def local_names(function):
    """The parameters of a function and the names that it assigns."""
    told = {node.arg for node in ast.walk(function) if isinstance(node, ast.arg)}
    return told | {node.id for node in ast.walk(function) if isinstance(node, ast.Name) and not isinstance(node.ctx, ast.Load)}


class Form(unittest.TestCase):
    def test_the_folder_holds_plain_files_alone(self):
        names = [name for name, text in sources()]
        self.assertIn("__init__.py", names)
        for name in names:
            self.assertRegex(name, r"^(__init__|__main__|[a-z][a-z0-9_]*)\.py$")

    def test_sizes_and_signs(self):
        for name, text in sources():
            rows = text.splitlines()
            self.assertLessEqual(len(rows), 399, name)
            for at, row in enumerate(rows, start=1):
                self.assertLessEqual(len(row), 120, (name, at))
                self.assertRegex(row, r"^[ -~]*$", (name, at))
                self.assertIsNone(BARRED_WORDS.search(row), (name, at))

    def test_functions_are_small(self):
        for name, text in sources():
            for node in ast.walk(ast.parse(text)):
                if isinstance(node, ast.FunctionDef):
                    self.assertLessEqual(node.end_lineno - node.lineno + 1, 40, (name, node.name))

    def test_statements_and_imports(self):
        for name, text in sources():
            for node in ast.walk(ast.parse(text)):
                if name != "__main__.py":
                    self.assertNotIsInstance(node, BARRED_STATEMENTS, name)
                if isinstance(node, ast.ImportFrom):
                    self.assertEqual(node.level, 0, name)
                    self.assertTrue(node.module == "__future__" or node.module.startswith("walkrooms."), name)
                if isinstance(node, ast.Constant):
                    self.assertNotIsInstance(node.value, (float, complex), name)

    def test_names_are_bound_or_listed(self):
        for name, text in sources():
            tree = ast.parse(text)
            bound = bound_names(tree)
            # A method may be called next.
            self.assertEqual(sorted(bound & BUILTINS - {"next"}), [], name)
            for node in ast.walk(tree):
                if isinstance(node, ast.Name) and name != "__main__.py":
                    self.assertIn(node.id, bound | BUILTINS, name)

    def test_names_are_plain_and_not_barred(self):
        for name, text in sources():
            if name != "__main__.py":
                tree = ast.parse(text)
                methods = defined_methods([tree])
                for bound in bound_names(tree) - methods:
                    self.assertFalse(bound.startswith("_"), (name, bound))
                    self.assertNotIn(bound, dir(builtins), name)
                    self.assertNotIn(bound, BARRED_NAMES, name)

    def test_no_local_name_is_that_of_an_import_or_a_class(self):
        for name, text in sources():
            tree = ast.parse(text)
            taken = {alias.asname or alias.name for node in tree.body if isinstance(node, ast.ImportFrom) for alias in node.names}
            taken |= {node.name for node in tree.body if isinstance(node, ast.ClassDef)}
            for node in ast.walk(tree):
                if isinstance(node, ast.FunctionDef):
                    self.assertEqual(sorted(local_names(node) & taken), [], (name, node.name))

    def test_methods_and_attributes(self):
        trees = [ast.parse(text) for name, text in sources()]
        methods = defined_methods(trees)
        nodes = [node for tree in trees for node in ast.walk(tree)]
        stored = {node.attr for node in nodes if isinstance(node, ast.Attribute) and isinstance(node.ctx, ast.Store)}
        called = {node.func.attr for node in nodes if isinstance(node, ast.Call) and isinstance(node.func, ast.Attribute)}
        read = {node.attr for node in nodes if isinstance(node, ast.Attribute) and isinstance(node.ctx, ast.Load)}
        self.assertEqual(sorted(stored & methods), [])
        self.assertEqual(sorted(called - methods - METHODS), [])
        self.assertEqual(sorted(read - stored - methods - METHODS), [])
        self.assertEqual(sorted((methods | stored) & METHODS - {"__init__"}), [])

    def test_files_do_not_import_from_each_other(self):
        imports = {}
        for name, text in sources():
            modules = [node.module for node in ast.parse(text).body if isinstance(node, ast.ImportFrom)]
            imports[name[:-3]] = [module.split(".")[1] for module in modules if module != "__future__"]
        while imports:
            ready = [name for name in imports if not any(other in imports for other in imports[name])]
            self.assertTrue(ready, imports)
            for name in ready:
                del imports[name]

    def test_the_interface_is_defined_where_it_is_listed(self):
        texts = dict(sources())
        for name, wanted in INTERFACE.items():
            defined = [node.name for node in ast.parse(texts[name]).body if isinstance(node, (ast.FunctionDef, ast.ClassDef))]
            for thing in wanted:
                self.assertIn(thing, defined, name)

    def test_methods_of_the_interface_stand_in_their_class(self):
        texts = dict(sources())
        for (name, wanted), methods in CLASS_METHODS.items():
            owner = [node for node in ast.parse(texts[name]).body if isinstance(node, ast.ClassDef) and node.name == wanted][0]
            defined = [node.name for node in owner.body if isinstance(node, ast.FunctionDef)]
            self.assertEqual(sorted(set(methods) - set(defined)), [], name)


if __name__ == "__main__":
    unittest.main()
