"""The interface as it is listed, and the outer form of the package's files."""

import ast
import pathlib
import re
import unittest

PACKAGE = pathlib.Path(__file__).resolve().parent.parent / "thronewalk"

INTERFACE = {
    "folk": {"check_house": "thing", "born_by": "house day", "children_of": "house who"},
    "news": {
        "check_book": "house thing", "is_dead": "book day who", "is_out": "book day who",
        "cut_from": "book day who",
    },
    "rules": {"check_rule": "house thing"},
    "steps": {
        "steps_of": "house book row day who", "is_line": "house book row day thing",
        "lines_many": "house book row day who",
    },
    "reach": {
        "right_reach": "house book row day thing", "reach_of": "house book row day",
        "stands": "house book row day who",
    },
    "walks": {"walk": "house book row day", "least_line": "house book row day who"},
    "places": {"right_place": "house book row day who thing"},
    "placing": {
        "place_of": "house book row day who", "parting": "house book row day one other",
        "comes_ahead": "house book row day one other",
    },
    "degrees": {"degrees": "house book row day who"},
}

BARRED = (
    "type", "typing", "typing_extensions", "enum", "Enum", "IntEnum", "StrEnum", "Flag", "IntFlag", "Generic",
    "Protocol", "ABC", "ABCMeta", "namedtuple", "NamedTuple", "TypedDict", "TYPE_CHECKING", "abstractmethod",
)


def files():
    return sorted(path for path in PACKAGE.rglob("*") if path.is_file() and path.parent.name != "__pycache__")


def tree_of(path):
    return ast.parse(path.read_text(encoding="utf-8"))


class Interface(unittest.TestCase):
    def test_each_function_stands_in_its_file_with_its_arguments(self):
        for module, functions in INTERFACE.items():
            defined = {
                node.name: " ".join(arg.arg for arg in node.args.args)
                for node in tree_of(PACKAGE / (module + ".py")).body if isinstance(node, ast.FunctionDef)
            }
            for name, arguments in functions.items():
                self.assertEqual(defined.get(name), arguments, module + "." + name)


class Form(unittest.TestCase):
    def test_files(self):
        for path in files():
            self.assertRegex(path.name, r"^[a-z][a-z0-9_]*\.py$|^__init__\.py$")
        self.assertLessEqual(len(files()), 100)

    def test_lines_and_signs(self):
        for path in files():
            text = path.read_text(encoding="utf-8")
            lines = text.split("\n")
            self.assertLessEqual(len(lines), 399, path)
            for line in lines:
                self.assertLessEqual(len(line), 120, path)
                self.assertTrue(all(" " <= sign <= "~" for sign in line), path)

    def test_barred_words(self):
        for path in files():
            words = set(re.findall(r"\w+", path.read_text(encoding="utf-8")))
            self.assertEqual(words & set(BARRED), set(), path)

    def test_functions_are_short(self):
        for path in files():
            for node in ast.walk(tree_of(path)):
                if isinstance(node, ast.FunctionDef):
                    self.assertLessEqual(node.end_lineno - node.lineno + 1, 40, node.name)

    def test_imports_name_the_very_file_that_defines(self):
        for path in files():
            for node in ast.walk(tree_of(path)):
                self.assertNotIsInstance(node, ast.Import, path)
                if isinstance(node, ast.ImportFrom):
                    self.assertRegex(node.module, r"^thronewalk\.[a-z]+$", path)
                    self.assertEqual({alias.name for alias in node.names} - self.bound_in(node.module), set(), path)

    def bound_in(self, module):
        bound = set()
        for node in tree_of(PACKAGE / (module.split(".")[1] + ".py")).body:
            if isinstance(node, (ast.FunctionDef, ast.ClassDef)):
                bound.add(node.name)
            if isinstance(node, ast.Assign):
                bound.add(node.targets[0].id)
        return bound


if __name__ == "__main__":
    unittest.main()
