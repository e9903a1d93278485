"""The interface as it is listed, and the outer form of the package's files."""

import ast
import builtins
import pathlib
import re
import unittest

PACKAGE = pathlib.Path(__file__).resolve().parent.parent / "thronewalk"

INTERFACE = {
    "folk": {"check_house": "thing", "born_by": "house day", "children_of": "house who"},
    "news": {
        "check_book": "house thing", "is_dead": "book day who", "is_out": "book day who",
        "cut_from": "book day who",
    },
    "rules": {"check_rule": "house thing"},
    "steps": {
        "steps_of": "house book row day who", "is_line": "house book row day thing",
        "lines_many": "house book row day who",
    },
    "reach": {
        "right_reach": "house book row day thing", "reach_of": "house book row day",
        "stands": "house book row day who",
    },
    "walks": {"walk": "house book row day", "least_line": "house book row day who"},
    "places": {"right_place": "house book row day who thing"},
    "placing": {
        "place_of": "house book row day who", "parting": "house book row day one other",
        "comes_ahead": "house book row day one other",
    },
    "degrees": {"degrees": "house book row day who"},
    "orders": {"order_of": "house book rule day last", "first_of": "house book rule day last"},
    "firsts": {"right_first": "house book rule day last who thing"},
    "firstmaking": {"first_paper": "house book rule day last"},
    "waits": {"open_awaits": "house book day", "child_house": "house book day place"},
    "reigns": {
        "reigns": "house book rule until", "sitter_at": "house book rule day", "last_at": "house book rule day",
        "regent_at": "house book rule day",
    },
    "moments": {"moments": "house book rule day news"},
    "reignpaper": {"right_reigns": "house book rule until thing"},
    "reignmaking": {"reign_paper": "house book rule until"},
    "births": {"may_have": "house book row day who"},
    "sures": {"right_sure": "house book rule day sits who thing"},
    "heirs": {"heir_of": "house book rule day sits"},
    "deaths": {
        "to_seat": "order who", "to_part": "one other", "to_join": "one other", "right_join": "one other thing",
    },
    "sharing": {"at_rest": "orders wishes thing"},
    "asking": {"by_thrones": "orders wishes turn", "by_folk": "orders wishes"},
    "unions": {"heads_at": "house book rules day", "unions": "house book one other until"},
    "scrolls": {"check_scroll": "house thing", "joined": "one other", "book_of": "scroll"},
    "late": {"changed_from": "house one other rule until"},
    "texts": {"house_text": "house", "book_text": "book", "rule_text": "rule"},
    "reading": {"read_house": "thing", "read_book": "house thing", "read_rule": "house thing"},
}

CLASSES = {
    "holder": ("Holder", {
        "__init__": "self house writer", "write": "self news", "strike": "self writer number", "hear": "self scroll",
        "scroll": "self", "book": "self", "sitter_at": "self rule day", "reigns": "self rule until",
    }),
    "desk": ("Desk", {"__init__": "self house rule", "say": "self thing"}),
}

BARRED = (
    "type", "typing", "typing_extensions", "enum", "Enum", "IntEnum", "StrEnum", "Flag", "IntFlag", "Generic",
    "Protocol", "ABC", "ABCMeta", "namedtuple", "NamedTuple", "TypedDict", "TYPE_CHECKING", "abstractmethod",
)

BUILTINS = set((
    "len range enumerate zip min max sum abs sorted reversed int str bool list tuple dict set isinstance ord repr any "
    "all divmod ValueError"
).split())

METHODS = set("append clear copy count extend get index insert items join keys pop remove setdefault split values".split())

UNUSED = set((
    "register mro elements open input law version_info with_traceback add_note attrgetter breakpoint builtins compile "
    "copyright credits delattr dir eval exec exit gc getattr globals hasattr help id importlib license locals "
    "methodcaller os quit setattr super type vars sys"
).split())


def files():
    return sorted(path for path in PACKAGE.rglob("*") if path.is_file() and path.parent.name != "__pycache__")


def tree_of(path):
    return ast.parse(path.read_text(encoding="utf-8"))


def defined_in(node):
    """The functions, or methods, that stand in a file, or a class, itself, with their arguments."""
    return {
        inner.name: " ".join(arg.arg for arg in inner.args.args)
        for inner in node.body if isinstance(inner, ast.FunctionDef)
    }


def classes():
    return [node for path in files() for node in tree_of(path).body if isinstance(node, ast.ClassDef)]


class Interface(unittest.TestCase):
    def test_each_function_stands_in_its_file_with_its_arguments(self):
        for module, functions in INTERFACE.items():
            defined = defined_in(tree_of(PACKAGE / (module + ".py")))
            for name, arguments in functions.items():
                self.assertEqual(defined.get(name), arguments, module + "." + name)

    def test_each_class_has_its_methods_itself(self):
        for module, (name, methods) in CLASSES.items():
            found = [node for node in tree_of(PACKAGE / (module + ".py")).body if isinstance(node, ast.ClassDef)]
            self.assertEqual([node.name for node in found], [name])
            defined = defined_in(found[0])
            for method, arguments in methods.items():
                self.assertEqual(defined.get(method), arguments, name + "." + method)


class Form(unittest.TestCase):
    def test_files(self):
        for path in files():
            self.assertRegex(path.name, r"^[a-z][a-z0-9_]*\.py$|^__init__\.py$")
        self.assertLessEqual(len(files()), 100)

    def test_lines_and_signs(self):
        for path in files():
            text = path.read_text(encoding="utf-8")
            lines = text.split("\n")
            self.assertLessEqual(len(lines), 399, path)
            for line in lines:
                self.assertLessEqual(len(line), 120, path)
                self.assertTrue(all(" " <= sign <= "~" for sign in line), path)

    def test_barred_words(self):
        for path in files():
            words = set(re.findall(r"\w+", path.read_text(encoding="utf-8")))
            self.assertEqual(words & set(BARRED), set(), path)

    def test_functions_are_short(self):
        for path in files():
            for node in ast.walk(tree_of(path)):
                if isinstance(node, ast.FunctionDef):
                    self.assertLessEqual(node.end_lineno - node.lineno + 1, 40, node.name)

    def test_imports_name_the_very_file_that_defines(self):
        for path in files():
            for node in ast.walk(tree_of(path)):
                self.assertNotIsInstance(node, ast.Import, path)
                if isinstance(node, ast.ImportFrom):
                    self.assertRegex(node.module, r"^thronewalk\.[a-z]+$", path)
                    self.assertEqual({alias.name for alias in node.names} - self.bound_in(node.module), set(), path)

    def test_no_two_files_import_from_each_other(self):
        needs = {
            "thronewalk." + path.stem: {
                node.module for node in ast.walk(tree_of(path)) if isinstance(node, ast.ImportFrom)}
            for path in files()
        }
        while needs:
            free = [module for module in needs if not needs[module] & set(needs)]
            self.assertTrue(free, needs)
            for module in free:
                del needs[module]

    def bound_in(self, module):
        bound = set()
        for node in tree_of(PACKAGE / (module.split(".")[1] + ".py")).body:
            if isinstance(node, (ast.FunctionDef, ast.ClassDef)):
                bound.add(node.name)
            if isinstance(node, ast.Assign):
                bound.add(node.targets[0].id)
        return bound


class Names(unittest.TestCase):
    def bound_names(self, tree):
        """Each name that the file gives a meaning, but for imports, and for methods, which are read off objects."""
        methods = [inner for node in tree.body if isinstance(node, ast.ClassDef) for inner in node.body]
        for node in ast.walk(tree):
            if isinstance(node, (ast.FunctionDef, ast.ClassDef)):
                if node not in methods:
                    yield node.name
            elif isinstance(node, ast.arg):
                yield node.arg
            elif isinstance(node, ast.Name) and not isinstance(node.ctx, ast.Load):
                yield node.id

    def imports(self, tree):
        return {alias.name for node in ast.walk(tree) if isinstance(node, ast.ImportFrom) for alias in node.names}

    def test_plain_names(self):
        for path in files():
            tree = tree_of(path)
            for name in self.bound_names(tree):
                self.assertRegex(name, r"^[A-Za-z][A-Za-z0-9_]*$", path)
                self.assertFalse(hasattr(builtins, name), (path, name))
                self.assertNotIn(name, UNUSED, path)
                self.assertNotIn(name, self.imports(tree), path)

    def test_one_binding_for_each_name(self):
        for path in files():
            names = list(self.imports(tree_of(path)))
            for node in tree_of(path).body:
                if isinstance(node, (ast.FunctionDef, ast.ClassDef)):
                    names.append(node.name)
                if isinstance(node, ast.Assign):
                    names.append(node.targets[0].id)
            self.assertEqual(len(names), len(set(names)), path)

    def attributes(self):
        """Each attribute that some object is given."""
        nodes = [node for path in files() for node in ast.walk(tree_of(path))]
        return {node.attr for node in nodes if isinstance(node, ast.Attribute) and isinstance(node.ctx, ast.Store)}

    def own_methods(self):
        return {name for node in classes() for name in defined_in(node)}

    def test_known_builtins_and_methods_alone(self):
        own = self.attributes() | self.own_methods()
        for path in files():
            tree = tree_of(path)
            known = BUILTINS | self.imports(tree) | set(self.bound_names(tree))
            for node in ast.walk(tree):
                if isinstance(node, ast.Name):
                    self.assertIn(node.id, known, path)
                if isinstance(node, ast.Attribute):
                    self.assertIn(node.attr, METHODS | own, path)
                if isinstance(node, ast.Attribute) and node.attr in own:
                    self.assertEqual(getattr(node.value, "id", None), "self", path)

    def test_methods_have_plain_names(self):
        for name in self.own_methods() - {"__init__"}:
            self.assertRegex(name, r"^[A-Za-z][A-Za-z0-9_]*$")
            self.assertFalse(hasattr(builtins, name), name)
            self.assertNotIn(name, UNUSED)

    def test_no_name_is_a_method_and_an_attribute(self):
        self.assertEqual(self.attributes() & self.own_methods(), set())
        barred = {name for kind in (str, int, list, dict, set, bytes, tuple) for name in dir(kind)}
        self.assertEqual((self.attributes() | self.own_methods() - {"__init__"}) & barred, set())

    def test_attributes_are_set_when_the_object_is_made(self):
        for node in classes():
            made = [inner for inner in node.body if isinstance(inner, ast.FunctionDef) and inner.name == "__init__"]
            first = {one.attr for inner in made for one in ast.walk(inner) if isinstance(one, ast.Attribute)}
            later = {one.attr for one in ast.walk(node) if isinstance(one, ast.Attribute) and isinstance(one.ctx, ast.Store)}
            self.assertEqual(later, first, node.name)


class Words(unittest.TestCase):
    BARRED = (
        ast.Import, ast.Global, ast.Nonlocal, ast.AsyncFunctionDef, ast.Await, ast.Try, ast.With, ast.Yield,
        ast.YieldFrom, ast.Div, ast.Pow, ast.Starred, ast.NamedExpr, ast.AnnAssign, ast.JoinedStr, ast.Delete)

    def test_nothing_that_needs_a_second_look(self):
        for path in files():
            for node in ast.walk(tree_of(path)):
                self.assertNotIsInstance(node, self.BARRED, path)
                if isinstance(node, ast.Compare):
                    self.assertFalse(any(isinstance(sign, (ast.Is, ast.IsNot)) for sign in node.ops), path)
                if isinstance(node, ast.Constant):
                    self.assertIn(type(node.value), (int, str, bool, type(None)), path)
                if isinstance(node, (ast.Set, ast.SetComp)):
                    self.fail(path)

    def test_sets_are_sorted_on_the_spot(self):
        for path in files():
            tree = tree_of(path)
            sorted_sets = [
                node.args[0] for node in ast.walk(tree)
                if isinstance(node, ast.Call) and isinstance(node.func, ast.Name) and node.func.id in ("sorted", "len")]
            for node in ast.walk(tree):
                if isinstance(node, ast.Call) and isinstance(node.func, ast.Name) and node.func.id == "set":
                    self.assertIn(node, sorted_sets, path)


if __name__ == "__main__":
    unittest.main()
