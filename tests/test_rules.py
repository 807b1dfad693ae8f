"""What can be seen of the rules of the language, file by file, and that the interface is there."""

import ast
import builtins
import importlib
import inspect
import pathlib
import re
import unittest

FOLDER = pathlib.Path(__file__).resolve().parent.parent / "joinranks"
BARRED_WORDS = {"type", "typing", "typing_extensions", "enum", "Enum", "IntEnum", "StrEnum", "Flag", "IntFlag",
                "Generic", "Protocol", "ABC", "ABCMeta", "namedtuple", "NamedTuple", "TypedDict", "TYPE_CHECKING",
                "abstractmethod"}
BARRED_CALLS = {"chr", "open", "input", "print", "getattr", "setattr", "hasattr", "eval", "exec", "map", "filter",
                "frozenset", "super", "vars", "hash", "id", "globals", "locals", "float", "round", "bytes"}
CLASSES = {
    ("tables", "Table"): "signs rows pieces which piece parts rank longest",
    ("follows", "Follows"): "table alone after ahead may",
    ("streams", "Stream"): "put told rest text doubt twin",
    ("kept", "Kept"): "change undo table text cutting piece_at twin under",
    ("learner", "Learner"): "put take step step_back counted beside table many_pieces",
    ("grammars", "Grammar"): "many ways ends leads tells",
    ("desk", "Desk"): "say",
}
FUNCTIONS = {
    "figures": {"is_whole": 1, "show_number": 1, "read_number": 1},
    "sweeping": {"signs_of": 2, "passed": 3, "swept_from": 3, "swept": 2, "rows_on_the_way": 2},
    "joinings": {"joinings": 2, "lets_joinings": 3},
    "meets": {"meets": 3, "stands_alone": 2, "may_follow": 3, "idle_pieces": 1, "right_edge": 2, "left_edge": 2},
    "judging": {"what_is_wrong": 2},
    "numbering": {"text_of": 2, "numbers_of": 2, "borders_of": 2, "pieces_of": 2},
    "quick": {"lasts": 2, "firsts": 2, "read_on": 2, "read_back": 2, "is_border": 3},
    "gluing": {"glued": 3, "parted": 3},
    "reaches": {"reach": 1},
    "patches": {"recut": 5, "patched": 2},
    "counting": {"beside": 2, "best_pair": 3},
    "learning": {"learnt": 4},
    "tableworks": {"beginning": 2, "renamed": 2, "led": 2, "trimmed": 1},
    "alike": {"unlike_text": 2},
    "walking": {"next_pieces": 3, "may_end": 3, "way_on": 3},
    "numbered": {"how_many": 3, "cutting_of": 4, "number_of": 3},
    "splitting": {"is_splitting": 3, "lets_heights": 3},
    "fewest": {"heights": 2, "fewest": 2, "how_many_fewest": 2},
    "texts": {"show_table": 1, "read_table": 1, "show_numbers": 1, "read_numbers": 1},
}


def sources():
    """The files of the package, as texts by their names."""
    return {path.name: path.read_text(encoding="utf-8") for path in sorted(FOLDER.glob("*.py"))}


def nodes(kind):
    """All nodes of a kind, with the names of their files."""
    for name, source in sources().items():
        for node in ast.walk(ast.parse(source)):
            if isinstance(node, kind):
                yield name, node


class Rules(unittest.TestCase):

    def test_the_folder_has_python_files_only(self):
        names = [path.name for path in FOLDER.iterdir() if path.name != "__pycache__"]
        self.assertIn("__init__.py", names)
        for name in names:
            self.assertRegex(name, r"^[a-z0-9_]+\.py$")

    def test_signs_and_sizes(self):
        for name, source in sources().items():
            self.assertRegex(source, r"\A[ -~\n]*\Z", name)
            lines = source.split("\n")
            self.assertLessEqual(len(lines), 400, name)
            self.assertLessEqual(max(len(line) for line in lines), 120, name)

    def test_functions_have_at_most_40_lines(self):
        for name, node in nodes(ast.FunctionDef):
            self.assertLessEqual(node.end_lineno - node.lineno + 1, 40, f"{name}: {node.name}")

    def test_barred_words(self):
        for name, source in sources().items():
            words = set(re.findall(r"[A-Za-z0-9_]+", source))
            self.assertEqual(words & BARRED_WORDS, set(), name)

    def test_no_percent_sign_in_a_string(self):
        for name, node in nodes(ast.Constant):
            if isinstance(node.value, str):
                self.assertNotIn(chr(37), node.value, name)
            self.assertNotIsInstance(node.value, float, name)

    def test_imports_are_of_the_package(self):
        self.assertEqual(list(nodes(ast.Import)), [])
        for name, node in nodes(ast.ImportFrom):
            self.assertTrue(node.module.startswith("joinranks.") and node.level == 0, name)

    def test_no_barred_builtin_is_called(self):
        for name, node in nodes(ast.Call):
            if isinstance(node.func, ast.Name):
                self.assertNotIn(node.func.id, BARRED_CALLS, name)

    def test_no_name_is_that_of_a_builtin(self):
        for name, node in nodes((ast.Name, ast.arg)):
            bound = node.arg if isinstance(node, ast.arg) else node.id if isinstance(node.ctx, ast.Store) else "ok"
            self.assertFalse(hasattr(builtins, bound) or bound.startswith("_"), f"{name}: {bound}")

    def test_imported_names(self):
        for name, source in sources().items():
            tree = ast.parse(source)
            imported = {part.name for node in ast.walk(tree) if isinstance(node, ast.ImportFrom) for part in node.names}
            names = [node for node in ast.walk(tree) if isinstance(node, ast.Name)]
            bound = {node.arg for node in ast.walk(tree) if isinstance(node, ast.arg)}
            bound |= {node.id for node in names if isinstance(node.ctx, ast.Store)}
            self.assertEqual(imported & bound, set(), name)
            self.assertEqual(imported - {node.id for node in names}, set(), name)

    def test_no_name_is_method_and_attribute(self):
        methods = {part.name for _, node in nodes(ast.ClassDef) for part in node.body
                   if isinstance(part, ast.FunctionDef)}
        attributes = {node.attr for _, node in nodes(ast.Attribute) if isinstance(node.ctx, ast.Store)}
        self.assertEqual(methods & attributes, set())

    def test_is_only_of_none_and_truths(self):
        for name, node in nodes(ast.Compare):
            for sign, other in zip(node.ops, node.comparators):
                if isinstance(sign, (ast.Is, ast.IsNot)):
                    self.assertIsInstance(other, ast.Constant, name)


class Interface(unittest.TestCase):

    def test_methods_stand_in_their_class(self):
        for (module, name), methods in CLASSES.items():
            made = getattr(importlib.import_module("joinranks." + module), name)
            for method in methods.split():
                self.assertIn(method, vars(made), f"{name}.{method}")

    def test_functions(self):
        for module, functions in FUNCTIONS.items():
            for name, many in functions.items():
                function = getattr(importlib.import_module("joinranks." + module), name)
                self.assertEqual(len(inspect.signature(function).parameters), many, name)


if __name__ == "__main__":
    unittest.main()
