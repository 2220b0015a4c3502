"""The form of the code: what the interface lists stands where it lists it, and some rules of the language."""

import ast
import builtins
import importlib
import pathlib
import unittest

FOLDER = pathlib.Path(__file__).resolve().parent.parent / "pieceround"

INTERFACE = {
    "pieceround.errors": [
        "PieceError", "InvalidNumber", "InvalidOrder", "InvalidExchange", "InvalidLengths", "InvalidPoint",
        "InvalidCourse", "InvalidReading", "InvalidTrace", "InvalidHeights", "InvalidProgram", "InvalidOperation",
        "ParseError", "InvalidCount", "UnknownName", "NothingToUndo", "TooMany", "Refused",
    ],
    "pieceround.base.words": ["is_integer", "is_count", "is_name", "are_names", "nth_name", "new_names"],
    "pieceround.base.numbers": ["Number", "have_one_root"],
    "pieceround.base.orders": ["Order", "each_order", "count_orders"],
}
CONSTANTS = {
    "pieceround.base.words": {"MAX_LETTERS": 8, "MAX_FIGURES": 60},
    "pieceround.base.numbers": {"MAX_ROOT": 999},
    "pieceround.base.orders": {"MAX_NAMES": 40, "MAX_LISTED": 7},
}
MEMBERS = {
    ("pieceround.base.numbers", "Number"): [
        "__init__", "top", "part", "root", "bottom", "sign", "floor", "mirror", "norm", "__add__", "__sub__",
        "__mul__", "__neg__", "over", "compared", "__eq__", "__str__", "read",
    ],
    ("pieceround.base.orders", "Order"): [
        "__init__", "read", "above", "below", "names", "many", "places", "is_whole", "blocks", "needless", "inverse",
        "backwards", "form", "renamed", "joined", "__eq__", "__len__", "__contains__", "__iter__", "__str__",
    ],
}
LIBRARY = {"math": {"gcd", "lcm", "isqrt", "comb", "perm", "factorial"}}
ALLOWED_BUILTINS = set(
    "len range enumerate zip min max sum abs sorted reversed int str bool bytes list tuple dict set isinstance ord repr"
    " any all divmod iter next property classmethod staticmethod super Exception ValueError TypeError KeyError"
    " IndexError LookupError ZeroDivisionError ArithmeticError OverflowError RuntimeError NotImplementedError"
    " AttributeError NotImplemented".split())


def files():
    return sorted(FOLDER.rglob("*.py"))


def nodes(kind):
    """All nodes of a kind, each with its file and line."""
    for path in files():
        for node in ast.walk(ast.parse(path.read_text())):
            if isinstance(node, kind):
                yield f"{path.name}:{getattr(node, 'lineno', 0)}", node


class InterfaceTest(unittest.TestCase):

    def test_what_is_listed_stands_in_its_file(self):
        for module, names in INTERFACE.items():
            path = FOLDER.parent / (module.replace(".", "/") + ".py")
            defined = {node.name for node in ast.parse(path.read_text()).body
                       if isinstance(node, (ast.ClassDef, ast.FunctionDef))}
            self.assertLessEqual(set(names), defined)

    def test_constants(self):
        for module, told in CONSTANTS.items():
            for name, value in told.items():
                self.assertEqual(getattr(importlib.import_module(module), name), value)

    def test_members_stand_in_their_class(self):
        for (module, name), members in MEMBERS.items():
            own = vars(getattr(importlib.import_module(module), name))
            self.assertLessEqual(set(members), set(own))


class LanguageTest(unittest.TestCase):

    def test_folders_and_files(self):
        self.assertTrue(files())
        for path in FOLDER.rglob("*"):
            if path.is_dir() and path.name != "__pycache__":
                self.assertTrue((path / "__init__.py").exists(), path)
            elif path.is_file() and path.parent.name != "__pycache__":
                self.assertRegex(path.name, r"^[a-z0-9_]+\.py$")

    def test_lines_and_characters(self):
        for path in files():
            text = path.read_text()
            self.assertLessEqual(len(text.splitlines()), 399, path)
            for line in text.splitlines():
                self.assertLessEqual(len(line), 120, (path, line))
            self.assertTrue(all(" " <= letter <= "~" or letter == "\n" for letter in text), path)

    def test_functions_have_at_most_forty_lines(self):
        for place, node in nodes(ast.FunctionDef):
            self.assertLessEqual(node.end_lineno - node.lineno + 1, 40, place)

    def test_imports(self):
        for place, node in nodes((ast.Import, ast.ImportFrom)):
            self.assertIsInstance(node, ast.ImportFrom, place)
            self.assertEqual(node.level, 0, place)
            names = {alias.name for alias in node.names}
            if node.module in LIBRARY:
                self.assertLessEqual(names, LIBRARY[node.module], place)
            else:
                self.assertTrue(node.module.startswith("pieceround."), place)
                self.assertNotIn("*", names, place)

    def test_values(self):
        for place, node in nodes(ast.Constant):
            self.assertNotIsInstance(node.value, (float, complex), place)
            if isinstance(node.value, str):
                self.assertNotIn(chr(37), node.value, place)
        for place, node in nodes((ast.Div, ast.Global, ast.AsyncFunctionDef, ast.Await)):
            self.fail(f"{place}: {node}")

    def test_builtins(self):
        known = set(dir(builtins))
        for place, node in nodes(ast.Name):
            if node.id in known:
                self.assertIn(node.id, ALLOWED_BUILTINS, place)
                self.assertIsInstance(node.ctx, ast.Load, place)
        for place, node in nodes((ast.arg, ast.FunctionDef, ast.ClassDef)):
            self.assertNotIn(node.arg if isinstance(node, ast.arg) else node.name, known, place)


if __name__ == "__main__":
    unittest.main()
