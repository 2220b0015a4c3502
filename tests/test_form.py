"""The form of the code: what the interface lists stands where it lists it, and some rules of the language."""

import ast
import builtins
import importlib
import inspect
import pathlib
import unittest

FOLDER = pathlib.Path(__file__).resolve().parent.parent / "pieceround"

INTERFACE = {
    "pieceround.errors": [
        "PieceError", "InvalidNumber", "InvalidOrder", "InvalidExchange", "InvalidLengths", "InvalidPoint",
        "InvalidCourse", "InvalidReading", "InvalidTrace", "InvalidHeights", "InvalidProgram", "InvalidOperation",
        "ParseError", "InvalidCount", "UnknownName", "NothingToUndo", "TooMany", "Refused",
    ],
    "pieceround.base.words": ["is_integer", "is_count", "is_name", "are_names", "nth_name", "new_names"],
    "pieceround.base.numbers": ["Number", "have_one_root"],
    "pieceround.base.orders": ["Order", "each_order", "count_orders"],
    "pieceround.piece.exchanges": ["Exchange", "cut_at", "joined", "are_same", "behind", "powers"],
    "pieceround.rounds.rounds": [
        "round_kind", "rounded", "course_of", "rounded_by", "order_behind", "columns", "paths", "lengths_ahead",
    ],
    "pieceround.rounds.parts": ["reading_of", "is_reading", "CyclePart", "LoopPart", "parts_of", "part_at"],
    "pieceround.rounds.loops": ["is_winner_of_all", "is_loop", "loop_share", "loop_exchange", "loops_of"],
    "pieceround.way.far": ["point_far", "counts_far", "period_at"],
    "pieceround.way.returns": ["returns_to", "first_visit"],
    "pieceround.trace.traces": [
        "trace", "stretch_of", "traces", "count_traces", "connections", "stretch_lengths",
    ],
    "pieceround.trace.turns": ["branchings", "traces_graph", "return_traces", "is_reversed", "palindromes"],
    "pieceround.walk.walks": [
        "moved", "class_of", "are_joined", "walk_between", "is_walk", "is_closed", "renaming_of",
    ],
    "pieceround.walk.cones": ["has_course", "lengths_with", "trace_for_some", "traces_together", "bar_of", "is_bar"],
    "pieceround.walk.programs": ["Program", "laid", "are_alike", "parted_by", "cases_of", "is_cases"],
    "pieceround.glue.surfaces": [
        "corner_walk", "corners", "angles", "left_angle", "genus", "form_rank", "parity", "frame_of", "is_frame",
        "marks", "are_marked_alike",
    ],
    "pieceround.glue.heights": ["are_right", "heights_of", "Raised"],
    "pieceround.same.wedges": ["wedge", "wedge_of_part", "comes_round"],
    "pieceround.same.likeness": ["periods", "leading", "is_leading", "swaps", "is_swaps"],
    "pieceround.use.bench": ["is_pledge", "Bench"],
}
SIGNATURES = {
    "pieceround.piece.exchanges": {
        "cut_at": "(exchange, points)", "joined": "(exchange)", "are_same": "(one, other)", "behind": "(one, other)",
        "powers": "(exchange, many)",
    },
    "pieceround.rounds.rounds": {
        "round_kind": "(exchange)", "rounded": "(exchange)", "course_of": "(exchange, many)",
        "rounded_by": "(exchange, course)", "order_behind": "(order, course)", "columns": "(order, course)",
        "paths": "(order, course)", "lengths_ahead": "(order, course, lengths)",
    },
    "pieceround.rounds.parts": {
        "reading_of": "(exchange, *, most=1000)", "is_reading": "(exchange, value)", "parts_of": "(exchange, reading)",
        "part_at": "(exchange, reading, point)",
    },
    "pieceround.rounds.loops": {
        "is_winner_of_all": "(order, course)", "is_loop": "(order, course)", "loop_share": "(order, course)",
        "loop_exchange": "(order, course)", "loops_of": "(order, many)",
    },
    "pieceround.way.far": {
        "point_far": "(exchange, reading, point, many)", "counts_far": "(exchange, reading, point, many)",
        "period_at": "(exchange, reading, point)",
    },
    "pieceround.way.returns": {
        "returns_to": "(exchange, begin, end, *, most=1000)", "first_visit": "(exchange, reading, point, begin, end)",
    },
    "pieceround.trace.traces": {
        "trace": "(exchange, point, many)", "stretch_of": "(exchange, trace)", "traces": "(exchange, many)",
        "count_traces": "(exchange, many)", "connections": "(exchange, many)", "stretch_lengths": "(exchange, many)",
    },
    "pieceround.trace.turns": {
        "branchings": "(exchange, many, *, ahead=False)", "traces_graph": "(exchange, many)",
        "return_traces": "(exchange, trace)", "is_reversed": "(order)", "palindromes": "(exchange, many)",
    },
    "pieceround.walk.walks": {
        "moved": "(places, kind)", "class_of": "(order)", "are_joined": "(one, other)", "walk_between": "(one, other)",
        "is_walk": "(one, other, value)", "is_closed": "(many, value)", "renaming_of": "(order, course)",
    },
    "pieceround.walk.cones": {
        "has_course": "(order, course)", "lengths_with": "(order, course)", "trace_for_some": "(order, trace)",
        "traces_together": "(order, traces)", "bar_of": "(order, traces)", "is_bar": "(order, traces, value)",
    },
    "pieceround.walk.programs": {
        "Program": "(orders)", "laid": "(program, lengths)", "are_alike": "(one, other)", "parted_by": "(one, other)",
        "cases_of": "(one, other)", "is_cases": "(one, other, value)",
    },
    "pieceround.glue.surfaces": {
        "corner_walk": "(order)", "corners": "(order)", "angles": "(order)", "left_angle": "(order)",
        "genus": "(order)", "form_rank": "(order)", "parity": "(order)", "frame_of": "(order)",
        "is_frame": "(order, value)", "marks": "(order)", "are_marked_alike": "(one, other)",
    },
    "pieceround.glue.heights": {
        "are_right": "(order, value)", "heights_of": "(order)", "Raised": "(exchange, heights)",
    },
    "pieceround.same.wedges": {
        "wedge": "(exchange)", "wedge_of_part": "(part)", "comes_round": "(exchange, *, most=1000)",
    },
    "pieceround.same.likeness": {
        "periods": "(exchange)", "leading": "(one, other)", "is_leading": "(one, other, value)", "swaps": "(order)",
        "is_swaps": "(order, value)",
    },
    "pieceround.use.bench": {"is_pledge": "(value)", "Bench": "(exchange)"},
}
CONSTANTS = {
    "pieceround.base.words": {"MAX_LETTERS": 8, "MAX_FIGURES": 60},
    "pieceround.base.numbers": {"MAX_ROOT": 999},
    "pieceround.base.orders": {"MAX_NAMES": 40, "MAX_LISTED": 7},
    "pieceround.piece.exchanges": {"MAX_POWERS": 60},
    "pieceround.rounds.rounds": {"KINDS": ("upper", "lower", "even"), "MAX_COURSE": 4000, "MAX_PATH": 100000},
    "pieceround.rounds.parts": {"MAX_ROUNDS": 4000},
    "pieceround.rounds.loops": {"MAX_LOOP": 24, "MAX_LOOP_NAMES": 8},
    "pieceround.way.far": {"MAX_STEPS": 10 ** 30},
    "pieceround.way.returns": {"MAX_RETURN": 10000},
    "pieceround.trace.traces": {"MAX_LISTED": 40, "MAX_STEPS": 1000, "MAX_TRACE": 4000},
    "pieceround.trace.turns": {"MAX_LETTERS": 40, "MAX_RETURN": 4000},
    "pieceround.walk.walks": {"MAX_WALKED": 7},
    "pieceround.walk.cones": {"MAX_CONE": 6, "MAX_LETTERS": 14},
    "pieceround.walk.programs": {"MAX_ORDERS": 4, "MAX_PROGRAM_NAMES": 5, "MAX_ROWS": 300},
    "pieceround.use.bench": {"MAX_PLEDGES": 10, "MAX_ROUNDS": 1000},
}
MEMBERS = {
    ("pieceround.base.numbers", "Number"): [
        "__init__", "top", "part", "root", "bottom", "sign", "floor", "mirror", "norm", "__add__", "__sub__",
        "__mul__", "__neg__", "over", "compared", "__eq__", "__str__", "read",
    ],
    ("pieceround.base.orders", "Order"): [
        "__init__", "read", "above", "below", "names", "many", "places", "is_whole", "blocks", "needless", "inverse",
        "backwards", "form", "renamed", "joined", "__eq__", "__len__", "__contains__", "__iter__", "__str__",
    ],
    ("pieceround.piece.exchanges", "Exchange"): [
        "__init__", "read", "order", "lengths", "total", "root", "begins", "begins_below", "shifts", "upper_cuts",
        "lower_cuts", "__call__", "back", "piece_at", "inverse", "backwards", "scaled", "__eq__", "__len__",
        "__contains__", "__iter__", "__str__",
    ],
    ("pieceround.rounds.parts", "CyclePart"): ["begin", "size", "is_loop", "length", "counts", "period", "__eq__"],
    ("pieceround.rounds.parts", "LoopPart"): [
        "begin", "size", "is_loop", "order", "lengths", "loop", "share", "columns", "__eq__",
    ],
    ("pieceround.walk.programs", "Program"): [
        "__init__", "orders", "names", "inverse", "__len__", "__eq__", "__str__",
    ],
    ("pieceround.glue.heights", "Raised"): [
        "__init__", "exchange", "heights", "rises", "area", "back_kind", "rounded", "rounded_back", "course_back",
        "inverse", "__eq__", "__str__",
    ],
    ("pieceround.use.bench", "Bench"): [
        "__init__", "cut", "join", "round", "compose", "turn", "scale", "rename", "demand", "waive", "undo", "redo",
        "trial", "during", "twin", "exchange", "lines", "wedge", "pledges", "changes", "__contains__", "__len__",
        "__iter__", "__eq__", "__str__",
    ],
}
METHOD_SIGNATURES = {
    ("pieceround.glue.heights", "Raised"): {"course_back": "(self, many)"},
    ("pieceround.use.bench", "Bench"): {
        "cut": "(self, points)", "join": "(self)", "round": "(self, *, many=1)",
        "compose": "(self, other, *, ahead=False)", "turn": "(self, *, backwards=False)", "scale": "(self, number)",
        "rename": "(self, names)", "demand": "(self, pledge)", "waive": "(self, pledge)",
        "undo": "(self, *, many=1)", "redo": "(self, *, many=1)", "trial": "(self)", "during": "(self, call)",
        "twin": "(self)",
    },
}
# What is iterated on the spot, and what may do that.
VIEWS = {"zip", "enumerate", "reversed", "range"}
VIEW_METHODS = {"items", "keys", "values"}
TAKERS = {"list", "tuple", "dict", "sorted", "sum", "any", "all", "enumerate", "zip"}
# What changes a list or a dict.
CHANGERS = {"append", "extend", "insert", "pop", "remove", "reverse", "clear", "update", "setdefault", "sort"}
# Words that name nothing.
BARRED = {
    "register", "mro", "elements", "open", "input", "law", "version_info", "with_traceback", "add_note", "type",
    "typing", "enum", "compile", "dir", "eval", "exec", "exit", "gc", "globals", "help", "id", "locals", "os", "quit",
    "vars", "sys", "setattr", "delattr", "callable", "format", "print", "hash", "iter", "object", "slice", "round",
}
LIBRARY = {"math": {"gcd", "lcm", "isqrt", "comb", "perm", "factorial"}}
ALLOWED_BUILTINS = set(
    "len range enumerate zip min max sum abs sorted reversed int str bool bytes list tuple dict set isinstance ord repr"
    " any all divmod iter next property classmethod staticmethod super Exception ValueError TypeError KeyError"
    " IndexError LookupError ZeroDivisionError ArithmeticError OverflowError RuntimeError NotImplementedError"
    " AttributeError NotImplemented".split())


def files():
    return sorted(FOLDER.rglob("*.py"))


def nodes(kind):
    """All nodes of a kind, each with its file and line."""
    for path in files():
        for node in ast.walk(ast.parse(path.read_text())):
            if isinstance(node, kind):
                yield f"{path.name}:{getattr(node, 'lineno', 0)}", node


def is_free_method(node):
    """Whether a node is a method with a name that a builtin has which the language leaves free."""
    return isinstance(node, ast.FunctionDef) and node.name == "round" and node.args.args[:1] != [] \
        and node.args.args[0].arg == "self"


def texts_of(node):
    """The texts of the names and attributes that a value may be, or that its walk goes over."""
    if isinstance(node, (ast.Name, ast.Attribute, ast.Subscript)):
        return {ast.unparse(node)}
    if isinstance(node, ast.IfExp):
        return texts_of(node.body) | texts_of(node.orelse)
    if isinstance(node, ast.BoolOp):
        return set().union(*[texts_of(value) for value in node.values])
    if isinstance(node, ast.Call) and isinstance(node.func, ast.Name) and node.func.id in VIEWS:
        return set().union(*[texts_of(value) for value in node.args], set())
    if isinstance(node, ast.Call) and isinstance(node.func, ast.Attribute) and node.func.attr in VIEW_METHODS:
        return texts_of(node.func.value)
    return set()


def changed_texts(rows):
    """The texts of what some rows change."""
    found = set()
    for row in rows:
        for node in ast.walk(row):
            if isinstance(node, ast.Call) and isinstance(node.func, ast.Attribute) and node.func.attr in CHANGERS:
                found |= texts_of(node.func.value)
            elif isinstance(node, ast.Subscript) and isinstance(node.ctx, (ast.Store, ast.Del)):
                found |= texts_of(node.value)
            elif isinstance(node, ast.AugAssign):
                found |= texts_of(node.target)
    return found


def changed_in_walk(function):
    """The texts of what a function changes while one of its loops walks it, by whatever name of the function."""
    groups = []
    for node in ast.walk(function):
        if isinstance(node, ast.Assign):
            for target in node.targets:
                group = texts_of(target) | texts_of(node.value)
                for other in [other for other in groups if other & group]:
                    groups.remove(other)
                    group |= other
                groups.append(group)
    found = []
    for node in ast.walk(function):
        if isinstance(node, ast.For):
            walked = texts_of(node.iter)
            for group in groups:
                walked |= group if group & walked else set()
            found += sorted(walked & changed_texts(node.body))
    return found


def changed_by_itself(tree):
    """The rows in which +=, |=, extend or update hands a list or a dict what it is or has itself, but for a copy."""
    found = []
    for node in ast.walk(tree):
        changed, handed = None, []
        if isinstance(node, ast.AugAssign) and isinstance(node.op, (ast.Add, ast.BitOr)):
            changed, handed = node.target, [node.value]
        elif isinstance(node, ast.Call) and isinstance(node.func, ast.Attribute) and node.func.attr in (
                "extend", "update"):
            changed, handed = node.func.value, list(node.args)
        texts = set()
        while changed is not None:
            texts.add(ast.unparse(changed))
            changed = changed.value if isinstance(changed, ast.Subscript) else None
        while handed:
            part = handed.pop()
            if ast.unparse(part) in texts:
                found.append(ast.unparse(node))
            elif not (isinstance(part, ast.Call) and ast.unparse(part.func) in ("list", "dict", "len")):
                handed.extend(ast.iter_child_nodes(part))
    return found


def methods_called_for_texts(trees):
    """The methods that a __str__ or a __repr__ calls, also in the functions and properties that it reaches."""
    named, properties, todo = {}, {}, []
    for tree in trees:
        for node in ast.walk(tree):
            if isinstance(node, ast.FunctionDef):
                is_property = "property" in [ast.unparse(mark) for mark in node.decorator_list]
                (properties if is_property else named).setdefault(node.name, []).append(node)
                if node.name in ("__str__", "__repr__"):
                    todo.append(node)
            elif isinstance(node, ast.ClassDef):
                made = [part for part in node.body if isinstance(part, ast.FunctionDef) and part.name == "__init__"]
                named.setdefault(node.name, []).extend(made)
    found, seen = [], []
    while todo:
        function = todo.pop()
        if function in seen:
            continue
        seen.append(function)
        for node in ast.walk(function):
            if isinstance(node, ast.Call) and isinstance(node.func, ast.Attribute):
                found.append(node.func.attr)
            elif isinstance(node, ast.Call) and isinstance(node.func, ast.Name):
                todo.extend(named.get(node.func.id, []))
            elif isinstance(node, ast.Attribute):
                todo.extend(properties.get(node.attr, []))
    return found


class InterfaceTest(unittest.TestCase):

    def test_what_is_listed_stands_in_its_file(self):
        for module, names in INTERFACE.items():
            path = FOLDER.parent / (module.replace(".", "/") + ".py")
            defined = {node.name for node in ast.parse(path.read_text()).body
                       if isinstance(node, (ast.ClassDef, ast.FunctionDef))}
            self.assertLessEqual(set(names), defined)

    def test_constants(self):
        for module, told in CONSTANTS.items():
            for name, value in told.items():
                self.assertEqual(getattr(importlib.import_module(module), name), value)

    def test_signatures(self):
        for module, told in SIGNATURES.items():
            self.assertLessEqual(set(told), set(INTERFACE[module]))
            for name, text in told.items():
                found = inspect.signature(getattr(importlib.import_module(module), name))
                self.assertEqual(str(found), text, name)

    def test_members_stand_in_their_class(self):
        for (module, name), members in MEMBERS.items():
            own = vars(getattr(importlib.import_module(module), name))
            self.assertLessEqual(set(members), set(own))

    def test_signatures_of_methods(self):
        for (module, name), told in METHOD_SIGNATURES.items():
            own = vars(getattr(importlib.import_module(module), name))
            for method, text in told.items():
                self.assertEqual(str(inspect.signature(own[method])), text, method)


class LanguageTest(unittest.TestCase):

    def test_folders_and_files(self):
        self.assertTrue(files())
        for path in FOLDER.rglob("*"):
            if path.is_dir() and path.name != "__pycache__":
                self.assertTrue((path / "__init__.py").exists(), path)
            elif path.is_file() and path.parent.name != "__pycache__":
                self.assertRegex(path.name, r"^[a-z0-9_]+\.py$")

    def test_lines_and_characters(self):
        for path in files():
            text = path.read_text()
            self.assertLessEqual(len(text.splitlines()), 399, path)
            for line in text.splitlines():
                self.assertLessEqual(len(line), 120, (path, line))
            self.assertTrue(all(" " <= letter <= "~" or letter == "\n" for letter in text), path)

    def test_functions_have_at_most_forty_lines(self):
        for place, node in nodes(ast.FunctionDef):
            self.assertLessEqual(node.end_lineno - node.lineno + 1, 40, place)

    def test_imports(self):
        for place, node in nodes((ast.Import, ast.ImportFrom)):
            self.assertIsInstance(node, ast.ImportFrom, place)
            self.assertEqual(node.level, 0, place)
            names = {alias.name for alias in node.names}
            if node.module in LIBRARY:
                self.assertLessEqual(names, LIBRARY[node.module], place)
            else:
                self.assertTrue(node.module.startswith("pieceround."), place)
                self.assertNotIn("*", names, place)

    def test_values(self):
        for place, node in nodes(ast.Constant):
            self.assertNotIsInstance(node.value, (float, complex), place)
            if isinstance(node.value, str):
                self.assertNotIn(chr(37), node.value, place)
        for place, node in nodes((ast.Div, ast.Global, ast.AsyncFunctionDef, ast.Await)):
            self.fail(f"{place}: {node}")

    def test_views_are_iterated_at_once(self):
        for path in files():
            tree = ast.parse(path.read_text())
            right = set()
            for node in ast.walk(tree):
                if isinstance(node, (ast.For, ast.comprehension)):
                    right.add(id(node.iter))
                elif isinstance(node, ast.Call) and isinstance(node.func, ast.Name) and node.func.id in TAKERS:
                    right.update(id(argument) for argument in node.args)
            for node in ast.walk(tree):
                if isinstance(node, ast.Call):
                    called = node.func
                    if isinstance(called, ast.Name) and called.id in VIEWS or (
                            isinstance(called, ast.Attribute) and called.attr in VIEW_METHODS):
                        self.assertIn(id(node), right, f"{path.name}:{node.lineno}")

    def test_what_is_walked_is_not_changed(self):
        for path in files():
            for function in ast.walk(ast.parse(path.read_text())):
                if isinstance(function, ast.FunctionDef):
                    found = changed_in_walk(function)
                    self.assertEqual(found, [], f"{path.name}: {function.name}")

    def test_what_the_test_of_walks_finds(self):
        told = [
            ("for x in xs: xs.append(x)", True), ("for x in list(xs): xs.append(x)", False),
            ("for x in self.xs: self.xs[0] = x", True), ("for k, x in enumerate(xs): del xs[k]", True),
            ("ys = []\n for x in xs: ys.append(x)\n xs = ys", True), ("ys = xs\n for x in xs: ys[0] = x", True),
            ("ys = []\n for x in list(xs): ys.append(x)\n xs = ys", False),
            ("ys = []\n for x in xs: ys.append(x)", False), ("for x in zip(ys, xs): xs += [x]", True),
            ("for x in (ys if x else xs): xs.pop()", True), ("for x in ys or xs: xs.pop()", True),
        ]
        for rows, is_wrong in told:
            function = ast.parse("def f(self, xs, ys):\n " + rows).body[0]
            self.assertIs(changed_in_walk(function) != [], is_wrong, rows)

    def test_nothing_is_handed_to_itself(self):
        for path in files():
            self.assertEqual(changed_by_itself(ast.parse(path.read_text())), [], path.name)

    def test_what_the_test_of_handing_finds(self):
        told = [
            ("xs[0] += xs[1]", True), ("xs[0] += ys[1]", False), ("xs[0] = xs[0] + xs[1]", False), ("xs += xs", True),
            ("xs += list(xs)", False), ("box.xs[k] += 2 * box.xs[m]", True), ("xs[k][m] += xs[m][k]", True),
            ("xs[k] += other.xs[k]", False), ("xs.extend(xs)", True), ("xs.extend([x for x in xs])", True),
            ("xs.extend(ys)", False), ("d.update(d)", True), ("d |= d", True), ("d[k] |= 1 << k", False),
            ("n += len(xs)", False), ("xs[k] += sum(xs)", True), ("xs[k] -= 1", False), ("xs[k] += len(xs)", False),
        ]
        for row, is_wrong in told:
            self.assertIs(changed_by_itself(ast.parse(row)) != [], is_wrong, row)

    def test_texts_call_no_methods(self):
        # The bench has a method called join, so any .join could be that one.
        self.assertEqual(methods_called_for_texts([ast.parse(path.read_text()) for path in files()]), [])

    def test_what_the_test_of_texts_finds(self):
        told = [
            ("def __str__(self): return ' '.join(self.xs)", "", ["join"]),
            ("def __str__(self): return f'{self.xs}'", "", []),
            ("def __repr__(self): return told(self.xs)", "def told(xs): return xs.copy()", ["copy"]),
            ("def __str__(self): return str(told(self.xs))", "def told(xs): return f'{far(xs)}'\n"
             "def far(xs): return ', '.join(xs)", ["join"]),
            ("@property\n def xs(self): return self.ys.all()\n def __str__(self): return f'{self.xs}'", "", ["all"]),
            ("def __init__(self): self.ys = [].copy()\n def __str__(self): return str(len(Box().ys))", "", ["copy"]),
            ("def other(self): return ' '.join(self.xs)\n def __str__(self): return 'box'", "", []),
        ]
        for rows, beside, called in told:
            tree = ast.parse(f"class Box:\n {rows}\n{beside}")
            self.assertEqual(methods_called_for_texts([tree]), called, rows)

    def test_texts_are_made_without_sums(self):
        for place, node in nodes(ast.FunctionDef):
            if node.name in ("__str__", "__repr__"):
                for part in ast.walk(node):
                    self.assertNotIsInstance(part, (ast.BinOp, ast.AugAssign), place)
                self.assertIsInstance(node.body[-1], ast.Return, place)

    def test_no_generator_expression_and_no_sort_in_place(self):
        for place, node in nodes(ast.GeneratorExp):
            self.fail(f"{place}: {node}")
        for place, node in nodes(ast.Attribute):
            self.assertNotIn(node.attr, ("sort", "format", "mro"), place)

    def test_names_of_imports_and_classes_mean_nothing_else(self):
        for path in files():
            tree = ast.parse(path.read_text())
            taken = {alias.name for node in tree.body if isinstance(node, ast.ImportFrom) for alias in node.names}
            taken |= {node.name for node in tree.body if isinstance(node, ast.ClassDef)}
            for node in ast.walk(tree):
                if isinstance(node, ast.Name) and isinstance(node.ctx, ast.Store):
                    self.assertNotIn(node.id, taken, f"{path.name}:{node.lineno}")
                elif isinstance(node, ast.arg):
                    self.assertNotIn(node.arg, taken, f"{path.name}:{node.lineno}")

    def test_properties_are_nothing_else(self):
        properties, methods, assigned = set(), set(), set()
        for _, node in nodes(ast.ClassDef):
            for method in node.body:
                if isinstance(method, ast.FunctionDef):
                    marks = [mark.id for mark in method.decorator_list]
                    (properties if "property" in marks else methods).add(method.name)
        for _, node in nodes(ast.Attribute):
            if isinstance(node.ctx, ast.Store):
                assigned.add(node.attr)
        self.assertFalse(properties & methods)
        self.assertFalse(properties & assigned)
        self.assertFalse(methods & assigned)

    def test_words(self):
        for place, node in nodes((ast.Name, ast.arg, ast.Attribute, ast.FunctionDef, ast.ClassDef)):
            told = [] if is_free_method(node) else [
                getattr(node, name) for name in ("id", "arg", "attr", "name") if hasattr(node, name)]
            self.assertFalse(BARRED & set(told) - {"iter"}, place)
            self.assertFalse([name for name in told if name.startswith(("_wall", "_pe_", "_dcw_", "_enum_"))], place)

    def test_no_circle_of_imports(self):
        known = {}
        for path in files():
            module = ".".join(path.relative_to(FOLDER.parent).with_suffix("").parts)
            known[module] = {node.module for node in ast.parse(path.read_text()).body
                             if isinstance(node, ast.ImportFrom) and node.module.startswith("pieceround")}
        while known:
            free = [module for module in known if not known[module] & set(known)]
            self.assertTrue(free, known)
            for module in free:
                del known[module]

    def test_builtins(self):
        known = set(dir(builtins))
        for place, node in nodes(ast.Name):
            if node.id in known:
                self.assertIn(node.id, ALLOWED_BUILTINS, place)
                self.assertIsInstance(node.ctx, ast.Load, place)
        for place, node in nodes((ast.arg, ast.FunctionDef, ast.ClassDef)):
            if not is_free_method(node):
                self.assertNotIn(node.arg if isinstance(node, ast.arg) else node.name, known, place)


if __name__ == "__main__":
    unittest.main()
