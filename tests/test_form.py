"""The form of the package: its files, its interface, and the rules that are easily looked up."""

import ast
import builtins
import pathlib
import re
import unittest

PACKAGE = pathlib.Path(__file__).resolve().parent.parent / "viewkin"
INTERFACE = {
    "errors": ["WebError", "BadColours", "BadTies", "BadPlace", "BadNumber", "BadOrder", "Unlike",
               "TooGreat", "Apart", "BadFolding", "BadOrders", "BadText", "BadDeed", "NothingLeft"],
    "webs": ["MOST_PLACES", "MOST_TIES", "Web", "pieces", "beside", "part", "renamed"],
    "views": ["view", "same_view", "parted_at", "kinds", "kinds_at", "depth_of"],
    "tables": ["table", "shares"],
    "foldings": ["is_folding"],
    "commons": ["alike", "plain_size", "common"],
    "papers": ["paper", "is_paper"],
    "turnings": ["MOST_FOLDED", "MOST_FOLDINGS", "foldings", "count_foldings", "folding_at", "folding_number",
                 "turnings", "lone"],
    "layers": ["MOST_LAYERS", "layered", "down", "count_layered", "count_whole", "leaves", "unlayered"],
    "texts": ["web_text", "read_web", "view_text"],
    "bench": ["Bench", "tried"],
}
METHODS = {("webs", "Web"): ["__init__", "__len__", "__eq__", "neighbours"],
           ("bench", "Bench"): ["__init__", "__len__", "__eq__", "web", "deeds", "do", "do_all", "undo", "redo",
                                "is_alike", "trial"]}
BUILTINS = set("""len range enumerate zip min max sum abs sorted reversed int str bool bytes list tuple
    dict set isinstance ord repr any all divmod iter next super property ValueError KeyError IndexError
    TypeError LookupError ZeroDivisionError OverflowError RuntimeError Exception StopIteration
    NotImplemented""".split())
METHODS_OF_VALUES = set("""append clear copy count endswith extend find get index insert isalnum isalpha
    isdigit islower isspace isupper items join keys ljust lower lstrip partition pop remove replace
    reverse rfind rjust rpartition rsplit rstrip setdefault split splitlines startswith strip update
    upper values zfill bit_length add discard""".split())
BARRED_WORDS = ["type", "typing", "enum", "dataclass", "overload", "contextmanager", "Generic", "ABC",
                "namedtuple", "Protocol", "register", "mro", "elements", "law", "global", "async"]
SPECIAL = ["__init__", "__eq__", "__len__", "__repr__", "__str__", "__enter__", "__exit__", "__call__",
           "__iter__"]
TAKE_NO_GENERATOR = ["any", "all", "min", "max", "sum", "sorted"]


def files():
    return sorted(PACKAGE.glob("*.py"))


def tree(path):
    return ast.parse(path.read_text(encoding="utf-8"))


def bound(path):
    """The names that a file defines itself."""
    names = []
    for node in tree(path).body:
        if isinstance(node, (ast.FunctionDef, ast.ClassDef)):
            names.append(node.name)
        if isinstance(node, ast.Assign):
            names.extend(target.id for target in node.targets)
    return names


def each_node(*sorts):
    """All parts of the code of these sorts, with where they stand."""
    return [(f"{path.name}, line {getattr(node, 'lineno', 0)}", node)
            for path in files() for node in ast.walk(tree(path)) if isinstance(node, sorts)]


class Form(unittest.TestCase):

    def test_the_folder_holds_modules_alone(self):
        others = [path.name for path in PACKAGE.iterdir()
                  if path.suffix != ".py" and path.name != "__pycache__"]
        self.assertEqual(others, [])
        self.assertTrue((PACKAGE / "__init__.py").exists())

    def test_the_interface_is_defined_in_its_files(self):
        for name, wanted in INTERFACE.items():
            names = bound(PACKAGE / f"{name}.py")
            self.assertEqual([one for one in wanted if one not in names], [], name)

    def test_methods_stand_in_their_class(self):
        for (name, owner), wanted in METHODS.items():
            for node in tree(PACKAGE / f"{name}.py").body:
                if isinstance(node, ast.ClassDef) and node.name == owner:
                    own = [part.name for part in node.body if isinstance(part, ast.FunctionDef)]
                    self.assertEqual([one for one in wanted if one not in own], [], owner)

    def test_sizes_and_characters(self):
        for path in files():
            text = path.read_text(encoding="utf-8")
            with self.subTest(file=path.name):
                self.assertRegex(text, r"\A[ -~\n]*\Z")
                self.assertLessEqual(len(text.splitlines()), 399)
                self.assertLessEqual(max(map(len, text.splitlines())), 120)
        for at, node in each_node(ast.FunctionDef):
            self.assertLessEqual(node.end_lineno - node.lineno + 1, 40, at)

    def test_barred_words(self):
        for path in files():
            for word in BARRED_WORDS:
                with self.subTest(file=path.name, word=word):
                    self.assertIsNone(re.search(rf"\b{word}\b", path.read_text(encoding="utf-8")))

    def test_imports_name_the_file_that_defines_them(self):
        for at, node in each_node(ast.Import, ast.ImportFrom):
            self.assertIsInstance(node, ast.ImportFrom, at)
            self.assertEqual(node.level, 0, at)
            self.assertRegex(node.module, r"\Aviewkin\.\w+\Z", at)
            source = bound(PACKAGE / f"{node.module.split('.')[1]}.py")
            for one in node.names:
                self.assertIn(one.name, source, at)
                self.assertIsNone(one.asname, at)

    def test_names_that_are_bound(self):
        for at, node in each_node(ast.Name, ast.arg, ast.FunctionDef, ast.ClassDef, ast.Attribute):
            name = next(getattr(node, field) for field in ("id", "arg", "name", "attr")
                        if hasattr(node, field))
            self.assertTrue(name in SPECIAL or not name.startswith("_"), (at, name))
            if isinstance(node, ast.Name) and isinstance(node.ctx, ast.Load):
                self.assertTrue(name in BUILTINS or name not in vars(builtins), (at, name))
            elif not isinstance(node, ast.Attribute):
                self.assertNotIn(name, vars(builtins), at)

    def test_no_local_name_is_that_of_a_class_or_an_import(self):
        for path in files():
            known = {one.name for node in ast.walk(tree(path)) if isinstance(node, ast.ImportFrom)
                     for one in node.names}
            known |= {node.name for node in tree(path).body if isinstance(node, ast.ClassDef)}
            for node in ast.walk(tree(path)):
                if isinstance(node, ast.arg):
                    self.assertNotIn(node.arg, known, path.name)
                if isinstance(node, ast.Name) and isinstance(node.ctx, ast.Store):
                    self.assertNotIn(node.id, known, path.name)

    def test_methods_that_are_called(self):
        own = {node.name for at, node in each_node(ast.FunctionDef)}
        for at, node in each_node(ast.Call):
            if isinstance(node.func, ast.Attribute):
                self.assertIn(node.func.attr, METHODS_OF_VALUES | own | {"__init__"}, at)

    def test_no_name_is_a_method_here_and_an_attribute_there(self):
        methods = {part.name for at, node in each_node(ast.ClassDef) for part in node.body
                   if isinstance(part, ast.FunctionDef) and not part.decorator_list}
        for at, node in each_node(ast.Attribute):
            if isinstance(node.ctx, ast.Store):
                self.assertNotIn(node.attr, methods, at)

    def test_statements_and_expressions(self):
        for at, node in each_node(ast.AST):
            self.assertNotIsInstance(node, (ast.Global, ast.AsyncFunctionDef, ast.Div, ast.MatMult), at)
            if isinstance(node, ast.Constant):
                self.assertNotIsInstance(node.value, (float, complex), at)
                self.assertFalse(isinstance(node.value, str) and "%" in node.value, at)
            if isinstance(node, ast.Compare) and isinstance(node.ops[0], (ast.Is, ast.IsNot)):
                self.assertIn(getattr(node.comparators[0], "value", 0), (None, True, False), at)
            if isinstance(node, ast.Call) and getattr(node.func, "id", "") in TAKE_NO_GENERATOR:
                self.assertFalse([one for one in node.args if isinstance(one, ast.GeneratorExp)], at)


if __name__ == "__main__":
    unittest.main()
