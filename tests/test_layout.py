"""The shape of the package: the rows of the interface, and those rules of the subset that a test sees easily."""

import ast
import builtins
import importlib
import inspect
import pathlib
import unittest

FOLDER = pathlib.Path(__file__).resolve().parent.parent / "needpegs"

# Each module with its classes and functions, and for each class what must stand in its own body.
INTERFACE = {
    "turns": {
        "Turn": {"read": ("text",)},
        "Put": {"__init__": ("self", "peg"), "__call__": ("self", "stand"), "__neg__": ("self",), "__eq__": None,
                "__repr__": ("self",)},
        "Take": {"__init__": ("self", "peg"), "__call__": ("self", "stand"), "__neg__": ("self",), "__eq__": None,
                 "__repr__": ("self",)},
    },
    "ways": {
        "Way": {"__init__": ("self", "board", "turns"), "board": None, "turns": None, "stands": ("self", "start"),
                "__call__": ("self", "stand"), "__neg__": ("self",), "__add__": None, "__abs__": ("self",),
                "__len__": ("self",), "__bool__": ("self",), "__eq__": None, "__repr__": ("self",),
                "read": ("cls", "board", "text")},
    },
    "boards": {
        "Board": {"__init__": ("self", "pegs", "needs", "bars", "costs"), "MOST": None, "pegs": None, "empty": None,
                  "cost_of": ("self", "peg"), "below": ("self", "peg"), "above": ("self", "peg"),
                  "needs": ("self", "peg", "other"), "clash": ("self", "peg", "other"), "stand": ("self", "pegs"),
                  "stands": ("self",), "count_stands": ("self",), "__call__": ("self", "pegs"), "__add__": None,
                  "__sub__": None, "__len__": None, "__contains__": None, "__eq__": None, "__repr__": None,
                  "is_name": ("text",), "read": ("cls", "text"), "of_family": ("cls", "sets")},
    },
    "stands": {
        "Stand": {"__init__": ("self", "board", "pegs"), "board": None, "pegs": None, "free": None, "loose": None,
                  "put": ("self", "peg"), "take": ("self", "peg"), "within": ("self", "other"),
                  "distance": ("self", "other"), "middle": ("self", "one", "other"),
                  "is_between": ("self", "one", "other"), "__and__": None, "__or__": None, "__xor__": None,
                  "__add__": None, "__sub__": None, "__len__": None, "__contains__": None, "__bool__": None,
                  "__eq__": None, "__repr__": None},
    },
    "wishes": {
        "Wish": {"__init__": ("self", "inside", "outside"), "inside": None, "outside": None,
                 "obstacle": ("self", "board"), "obstacle_holds": ("self", "board", "value"),
                 "forced": ("self", "board"), "stands": ("self", "board"), "__call__": ("self", "stand"),
                 "__contains__": None, "__and__": None, "__bool__": None, "__eq__": None, "__repr__": None},
    },
    "crowds": {
        "Crowd": {"__init__": ("self", "board"), "names": None, "whole": None, "load": ("self", "name"),
                  "set_load": ("self", "name", "load"), "drop": ("self", "name"), "carried": ("self", "peg"),
                  "total": ("self", "stand"), "best": ("self", "wish"), "bound": ("self", "wish"),
                  "is_best": ("self", "stand", "wish"), "all_best": ("self", "wish"), "__getitem__": None,
                  "__setitem__": None, "__iter__": ("self",), "__len__": None, "__contains__": None},
    },
    "company": {
        "Company": {"__init__": ("self", "board", "budget"), "enter": ("self", "name", "load"), "leave": ("self", "name"),
                    "put_in": ("self", "name", "peg"), "take_out": ("self", "name", "peg"),
                    "walk": ("self", "name", "way"), "obey": ("self", "name", "wish"), "gather": ("self", "wish"),
                    "undo": ("self",), "several": ("self", "deeds", "whole"), "log": ("self",), "spent": None,
                    "budget": None, "names": None, "stand": ("self", "name"), "load": ("self", "name"),
                    "crowd": ("self",), "copied": ("self",), "held": ("self", "pegs"), "held_pegs": None,
                    "trial": ("self",), "guarded": ("self", "pegs"), "__len__": None, "__contains__": None,
                    "__repr__": None},
    },
    "blocks": {
        "Hold": {"__enter__": ("self",), "__exit__": ("self", "kind", "value", "trace")},
        "Trial": {"__enter__": ("self",), "__exit__": ("self", "kind", "value", "trace"), "keep": ("self",), "paid": None},
        "Guard": {"__enter__": ("self",), "__exit__": ("self", "kind", "value", "trace"), "keep": ("self",), "paid": None},
    },
    "desk": {
        "Desk": {"__init__": ("self",), "say": ("self", "command"), "__len__": None},
    },
}
CLASSES_MADE_BY_A_COMPANY = ("Hold", "Trial", "Guard")
FUNCTIONS = {
    "texts": {"show_board": ("board",)},
    "between": {
        "precedence": ("a", "b"), "orders": ("a", "b"), "count_orders": ("a", "b"), "stands_between": ("a", "b"),
        "count_between": ("a", "b"), "rounds": ("a", "b"), "longest_chain": ("a", "b"),
        "rounds_lead": ("a", "b", "value"),
    },
    "wishes": {"gap": ("board", "one", "other"), "around": ("stands",)},
    "derived": {
        "narrowed": ("board", "wish"), "widened": ("board", "wish", "stand"), "seen_from": ("origin",),
        "seen": ("stand", "origin"),
    },
    "plays": {"play": ("company", "items"), "within": ("block", "call")},
    "families": {"family_of": ("board",), "witness_holds": ("sets", "word", "value")},
}
PROPERTIES = (
    ("boards", "Board", ("pegs", "empty")),
    ("stands", "Stand", ("board", "pegs", "free", "loose")),
    ("ways", "Way", ("board", "turns")),
    ("wishes", "Wish", ("inside", "outside")),
    ("crowds", "Crowd", ("names", "whole")),
    ("company", "Company", ("spent", "budget", "names", "held_pegs")),
    ("blocks", "Trial", ("paid",)),
    ("blocks", "Guard", ("paid",)),
)
# The last parameters of methods, each with its default and whether it goes by its name alone.
DEFAULTS = (
    ("boards", "Board", "__init__", [("needs", (), True), ("bars", (), True), ("costs", None, True)]),
    ("ways", "Way", "__init__", [("turns", (), False)]),
    ("wishes", "Wish", "__init__", [("inside", (), False), ("outside", (), False)]),
    ("crowds", "Crowd", "best", [("wish", None, True)]),
    ("crowds", "Crowd", "bound", [("wish", None, True)]),
    ("crowds", "Crowd", "is_best", [("wish", None, True)]),
    ("crowds", "Crowd", "all_best", [("wish", None, True)]),
    ("company", "Company", "__init__", [("budget", None, True)]),
    ("company", "Company", "enter", [("load", 1, False)]),
    ("company", "Company", "gather", [("wish", None, True)]),
    ("company", "Company", "several", [("whole", True, True)]),
)
BUILTINS = set("""
len range enumerate zip min max sum abs sorted reversed int str bool bytes list tuple dict set isinstance ord repr any
all divmod Exception ValueError TypeError KeyError IndexError LookupError NotImplemented iter next map
property staticmethod classmethod super
""".split())
METHODS = set("append bit_length get items join pop replace split values".split())


def trees():
    for path in sorted(FOLDER.glob("*.py")):
        yield path.name, ast.parse(path.read_text(encoding="ascii"))


def imported(tree):
    return [node for node in ast.walk(tree) if isinstance(node, (ast.Import, ast.ImportFrom))]


class InterfaceTest(unittest.TestCase):
    def test_each_class_is_defined_in_its_file(self):
        for module, classes in INTERFACE.items():
            for name in classes:
                found = getattr(importlib.import_module(f"needpegs.{module}"), name)
                self.assertEqual(found.__module__, f"needpegs.{module}")

    def test_each_function_is_defined_in_its_file(self):
        for module, functions in FUNCTIONS.items():
            for name, parameters in functions.items():
                found = getattr(importlib.import_module(f"needpegs.{module}"), name)
                self.assertEqual(found.__module__, f"needpegs.{module}")
                self.assertEqual(tuple(inspect.signature(found).parameters), parameters)

    def test_each_method_stands_in_the_body_of_its_class(self):
        for module, classes in INTERFACE.items():
            for name, members in classes.items():
                body = vars(getattr(importlib.import_module(f"needpegs.{module}"), name))
                for member, parameters in members.items():
                    with self.subTest(name, member=member):
                        self.assertIn(member, body)
                        self.check_parameters(body[member], parameters)

    def check_parameters(self, member, parameters):
        if parameters is not None:
            function = getattr(member, "__func__", member)
            self.assertEqual(tuple(inspect.signature(function).parameters), parameters)

    def test_kinds_of_members(self):
        for module, name, properties in PROPERTIES:
            kind = getattr(importlib.import_module(f"needpegs.{module}"), name)
            for member in properties:
                self.assertIsInstance(vars(kind)[member], property)
        turns, ways, boards = [importlib.import_module(f"needpegs.{word}") for word in ("turns", "ways", "boards")]
        self.assertIsInstance(vars(turns.Turn)["read"], staticmethod)
        self.assertIsInstance(vars(ways.Way)["read"], classmethod)
        self.assertIsInstance(vars(boards.Board)["is_name"], staticmethod)
        self.assertIsInstance(vars(boards.Board)["read"], classmethod)
        self.assertIsInstance(vars(boards.Board)["of_family"], classmethod)
        self.assertTrue(inspect.isgeneratorfunction(ways.Way.stands))
        self.assertTrue(inspect.isgeneratorfunction(boards.Board.stands))
        wishes, crowds = [importlib.import_module(f"needpegs.{word}") for word in ("wishes", "crowds")]
        self.assertTrue(inspect.isgeneratorfunction(wishes.Wish.stands))
        self.assertTrue(inspect.isgeneratorfunction(crowds.Crowd.all_best))

    def test_defaults_and_what_goes_by_name_alone(self):
        for module, name, member, told in DEFAULTS:
            kind = getattr(importlib.import_module(f"needpegs.{module}"), name)
            parameters = inspect.signature(vars(kind)[member]).parameters.values()
            found = [(one.name, one.default, one.kind is one.KEYWORD_ONLY) for one in parameters]
            self.assertEqual(found[-len(told):], told, (name, member))
            self.assertTrue(all(one[1] is inspect.Parameter.empty for one in found[:-len(told)]), (name, member))

    def test_attributes_of_turns_are_set_on_each_object(self):
        turns = importlib.import_module("needpegs.turns")
        self.assertEqual(vars(turns.Put("a")), {"peg": "a", "sign": "+"})
        self.assertEqual(vars(turns.Take("a")), {"peg": "a", "sign": "-"})


class FilesTest(unittest.TestCase):
    def test_the_folder_holds_only_modules(self):
        for path in FOLDER.iterdir():
            self.assertTrue(path.suffix == ".py" or path.name == "__pycache__", path)

    def test_the_first_file_is_only_a_docstring(self):
        tree = ast.parse((FOLDER / "__init__.py").read_text(encoding="ascii"))
        self.assertEqual(len(tree.body), 1)
        self.assertIsNotNone(ast.get_docstring(tree))

    def test_sizes_and_characters(self):
        for path in FOLDER.glob("*.py"):
            text = path.read_text(encoding="ascii")
            lines = text.split("\n")
            self.assertLessEqual(len(lines), 399, path)
            self.assertLessEqual(max(len(line) for line in lines), 120, path)
            self.assertTrue(all(" " <= letter <= "~" or letter == "\n" for letter in text), path)
            self.assertNotIn("%", text, path)

    def test_sizes_of_functions(self):
        for name, tree in trees():
            for node in ast.walk(tree):
                if isinstance(node, ast.FunctionDef):
                    self.assertLessEqual(node.end_lineno - node.lineno + 1, 40, (name, node.name))


class SubsetTest(unittest.TestCase):
    def test_imports_are_from_the_package_and_name_the_defining_file(self):
        for name, tree in trees():
            for node in imported(tree):
                self.assertIsInstance(node, ast.ImportFrom, name)
                self.assertTrue(node.module.startswith("needpegs.") and node.level == 0, (name, node.module))
                module = importlib.import_module(node.module)
                for word in node.names:
                    found = getattr(module, word.name)
                    self.assertEqual(getattr(found, "__module__", node.module), node.module, (name, word.name))

    def test_no_two_files_import_from_each_other(self):
        left = {name[:-3]: {node.module.split(".")[1] for node in imported(tree)} for name, tree in trees()}
        while left:
            ends = [name for name, others in left.items() if not others & set(left)]
            self.assertTrue(ends, left)
            left = {name: others for name, others in left.items() if name not in ends}

    def test_only_listed_builtins_are_used(self):
        for name, tree in trees():
            for node in ast.walk(tree):
                if isinstance(node, ast.Name) and hasattr(builtins, node.id):
                    self.assertIn(node.id, BUILTINS, (name, node.lineno))
                    self.assertIsInstance(node.ctx, ast.Load, (name, node.lineno))

    def test_no_barred_statements_and_expressions(self):
        barred = (ast.GeneratorExp, ast.Global, ast.AsyncFunctionDef, ast.Set, ast.Div)
        for name, tree in trees():
            for node in ast.walk(tree):
                if isinstance(node, ast.Compare) and isinstance(node.ops[0], (ast.Is, ast.IsNot)):
                    self.assertIsInstance(node.comparators[0], ast.Constant, (name, node.lineno))
                elif isinstance(node, barred):
                    self.fail((name, node))
                self.assertFalse(isinstance(node, ast.Constant) and isinstance(node.value, float), name)

    def test_what_has_the_name_of_a_generator_is_one(self):
        kinds = {}
        for _, tree in trees():
            for node in ast.walk(tree):
                if isinstance(node, ast.FunctionDef):
                    yields = any(isinstance(part, (ast.Yield, ast.YieldFrom)) for part in ast.walk(node))
                    self.assertIs(kinds.setdefault(node.name, yields), yields, node.name)

    def test_only_listed_methods_of_builtin_values_are_called(self):
        for name, tree in trees():
            for node in ast.walk(tree):
                if isinstance(node, ast.Call) and isinstance(node.func, ast.Attribute):
                    kinds = [kind for kind in (str, list, dict, tuple, set, int) if hasattr(kind, node.func.attr)]
                    if kinds and not self.is_call_of_a_base(node):
                        self.assertIn(node.func.attr, METHODS, (name, node.lineno))

    def is_call_of_a_base(self, node):
        return node.func.attr == "__init__" and node.func.value.id in INTERFACE["blocks"] and node.args[0].id == "self"

    def test_no_name_of_an_import_is_given_another_meaning(self):
        for name, tree in trees():
            words = {word.name for node in imported(tree) for word in node.names}
            for node in ast.walk(tree):
                if isinstance(node, ast.arg):
                    self.assertNotIn(node.arg, words, (name, node.lineno))
                if isinstance(node, ast.Name) and not isinstance(node.ctx, ast.Load):
                    self.assertNotIn(node.id, words, (name, node.lineno))

    def test_values_of_class_names_and_module_names_are_plain(self):
        allowed = (ast.Expr, ast.ImportFrom, ast.FunctionDef, ast.ClassDef, ast.Assign)
        for name, tree in trees():
            for node in tree.body:
                self.assertIsInstance(node, allowed, name)
                if isinstance(node, ast.Assign):
                    ast.literal_eval(node.value)

    def test_properties_are_not_attributes_anywhere(self):
        found = {member for module, name, members in PROPERTIES for member in members} - {"budget"}
        for name, tree in trees():
            for node in ast.walk(tree):
                if isinstance(node, ast.Attribute) and not isinstance(node.ctx, ast.Load):
                    self.assertNotIn(node.attr, found, (name, node.lineno))
                    # The only property that can be assigned is assigned off a company alone.
                    self.assertTrue(node.attr != "budget" or node.value.id == "company", (name, node.lineno))

    def test_no_name_is_a_method_and_an_attribute(self):
        methods, attributes = set(), set()
        for _, tree in trees():
            for node in ast.walk(tree):
                if isinstance(node, ast.ClassDef):
                    methods |= {part.name for part in node.body if isinstance(part, ast.FunctionDef)}
                elif isinstance(node, ast.Attribute) and not isinstance(node.ctx, ast.Load):
                    attributes.add(node.attr)
        self.assertEqual(methods & attributes, {"budget"})

    def test_no_barred_names(self):
        barred = set("""_cold _tuplegetter _outside _record _written_out _member_names register mro elements open input law
            version_info with_traceback add_note args format""".split())
        for name, tree in trees():
            for node in ast.walk(tree):
                words = [getattr(node, field, None) for field in ("id", "attr", "arg", "name", "asname")]
                self.assertFalse(barred & {word for word in words if isinstance(word, str)}, (name, words))
                if isinstance(node, (ast.arg, ast.FunctionDef)):
                    word = node.arg if isinstance(node, ast.arg) else node.name
                    self.assertNotIn(word, vars(builtins), name)

    def test_what_stands_at_the_end_of_blocks(self):
        for name, tree in trees():
            for node in ast.walk(tree):
                if isinstance(node, ast.FunctionDef) and node.name == "__exit__":
                    self.assertEqual([one.arg for one in node.args.args], ["self", "kind", "value", "trace"])
                    self.assertEqual(ast.unparse(node.body[0]), "company = self.company", name)
                    for row in node.body[1:]:
                        self.check_row(row)

    def check_row(self, row):
        """A plain assignment of an attribute, or one under a test of what is None."""
        if isinstance(row, ast.If):
            self.assertEqual(ast.unparse(row.test), "kind is not None or self.kept is None")
            self.assertEqual((len(row.body), row.orelse), (1, []))
            row = row.body[0]
        self.assertIsInstance(row, ast.Assign)
        for side in (*row.targets, row.value):
            self.assertTrue(isinstance(side, ast.Attribute) and isinstance(side.value, ast.Name))


if __name__ == "__main__":
    unittest.main()
