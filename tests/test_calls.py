"""How everything of the interface is called: [2]. By position, by name in another order, and with defaults left out."""

import inspect
import itertools
import types
import unittest

from samples import BARS, COSTS, NEEDS, PEGS, example
from test_company import told
from test_layout import CLASSES_MADE_BY_A_COMPANY, FUNCTIONS, INTERFACE

from needpegs import between, derived, errors, families, plays, texts, wishes
from needpegs.boards import Board
from needpegs.company import Company
from needpegs.crowds import Crowd
from needpegs.desk import Desk
from needpegs.stands import Stand
from needpegs.turns import Put, Take, Turn
from needpegs.ways import Way
from needpegs.wishes import Wish

STAND, OTHER, WISH = example()(("a", "b")), example()(("a", "c", "d")), Wish(("c",), ("d",))


def crowd():
    found = Crowd(example())
    found["x"], found["y"] = STAND, OTHER
    found.set_load("y", 2)
    return found


def company():
    found = Company(example(), budget=30)
    found.enter("x", 2)
    found.obey("x", Wish(("b",)))
    return found


def desk():
    found = Desk()
    found.say("board peg a 1 ; peg b 2")
    return found


# What is called, off an object that is made anew for each call, and the arguments in their order. Those behind a star
# go by name alone.
METHODS = (
    (example, "cost_of", {"peg": "b"}), (example, "below", {"peg": "c"}), (example, "above", {"peg": "a"}),
    (example, "needs", {"peg": "b", "other": "a"}), (example, "clash", {"peg": "b", "other": "c"}),
    (example, "stands", {}), (example, "count_stands", {}), (example, "__call__", {"pegs": ("b", "a")}),
    (example, "is_name", {"text": "ab"}), (example, "read", {"text": "peg a 1"}), (example, "of_family", {"sets": ((), ("a",))}),
    (lambda: STAND, "put", {"peg": "d"}), (lambda: STAND, "take", {"peg": "b"}), (lambda: STAND, "within", {"other": OTHER}),
    (lambda: STAND, "distance", {"other": OTHER}), (lambda: STAND, "middle", {"one": OTHER, "other": example().empty}),
    (lambda: STAND, "is_between", {"one": OTHER, "other": STAND}),
    (lambda: Turn, "read", {"text": "+a"}), (lambda: Put("d"), "__call__", {"stand": STAND}),
    (lambda: Take("b"), "__call__", {"stand": STAND}),
    (lambda: Way, "read", {"board": example(), "text": "+d -d"}),
    (lambda: Way.read(example(), "+d -d"), "stands", {"start": STAND}),
    (lambda: Way.read(example(), "+d"), "__call__", {"stand": STAND}),
    (lambda: WISH, "obstacle", {"board": example()}),
    (lambda: Wish(("b", "c")), "obstacle_holds", {"board": example(), "value": ("bars", "b", "c")}),
    (lambda: WISH, "forced", {"board": example()}), (lambda: WISH, "stands", {"board": example()}),
    (lambda: WISH, "__call__", {"stand": STAND}),
    (crowd, "load", {"name": "y"}), (crowd, "set_load", {"name": "x", "load": 7}), (crowd, "drop", {"name": "x"}),
    (crowd, "carried", {"peg": "a"}), (crowd, "total", {"stand": STAND}), (crowd, "best", {"*": None, "wish": WISH}),
    (crowd, "bound", {"*": None, "wish": WISH}), (crowd, "is_best", {"stand": OTHER, "*": None, "wish": Wish()}),
    (crowd, "all_best", {"*": None, "wish": WISH}),
    (company, "enter", {"name": "z", "load": 5}), (company, "leave", {"name": "x"}),
    (company, "put_in", {"name": "x", "peg": "d"}), (company, "take_out", {"name": "x", "peg": "b"}),
    (company, "walk", {"name": "x", "way": Way.read(example(), "+d -d")}), (company, "obey", {"name": "x", "wish": WISH}),
    (company, "gather", {"*": None, "wish": WISH}), (company, "undo", {}),
    (company, "several", {"deeds": (("put", "x", "d"), ("put", "x", "q")), "*": None, "whole": False}),
    (company, "log", {}), (company, "stand", {"name": "x"}), (company, "load", {"name": "x"}), (company, "crowd", {}),
    (company, "copied", {}), (company, "trial", {}), (desk, "say", {"command": "enter x 3"}),
    (lambda: company().trial(), "keep", {}), (lambda: company().guarded("a"), "keep", {}),
)
MADE = (
    (Board, {"pegs": PEGS, "*": None, "needs": NEEDS, "bars": BARS, "costs": COSTS}),
    (Stand, {"board": example(), "pegs": ("a", "b")}), (Put, {"peg": "a"}), (Take, {"peg": "a"}),
    (Way, {"board": example(), "turns": (Put("a"),)}), (Wish, {"inside": ("a",), "outside": ("b",)}),
    (Crowd, {"board": example()}), (Company, {"board": example(), "*": None, "budget": 5}), (Desk, {}),
    (errors.NoBoard, {"word": "w", "at": 1}), (errors.NoText, {"line": 1}), (errors.NoFamily, {"word": "w", "sets": 1}),
    (errors.NoTurn, {"peg": 1}), (errors.Missing, {"peg": 1, "needed": 2}), (errors.Needed, {"peg": 1, "by": 2}),
    (errors.Barred, {"peg": 1, "other": 2}), (errors.NoMatch, {"word": 1}), (errors.Stuck, {"at": 1}),
    (errors.Unmet, {"word": 1, "peg": 2, "other": 3}), (errors.Held, {"peg": 1}), (errors.Spent, {"cost": 1}),
    (errors.NoDeed, {"word": 1}), (errors.Broken, {"at": 1}), (errors.NoCommand, {}), (errors.NoPeg, {"peg": 1}),
    (errors.NoWalker, {"name": 1}),
)
FUNCTION_CALLS = (
    (texts.show_board, lambda: {"board": example()}), (families.family_of, lambda: {"board": example()}),
    (families.witness_holds, lambda: {"sets": ((), ("a", "b")), "word": "fixed", "value": (("a", "b"),)}),
    *[(call, lambda: {"a": STAND, "b": OTHER}) for call in (
        between.precedence, between.orders, between.count_orders, between.stands_between, between.count_between,
        between.rounds, between.longest_chain,
    )],
    (between.rounds_lead, lambda: {"a": STAND, "b": OTHER, "value": between.rounds(STAND, OTHER)}),
    (wishes.gap, lambda: {"board": example(), "one": WISH, "other": Wish(("b",))}),
    (wishes.around, lambda: {"stands": (STAND, OTHER)}),
    (derived.narrowed, lambda: {"board": example(), "wish": WISH}),
    (derived.widened, lambda: {"board": example(), "wish": Wish(("b",)), "stand": Board(("d",)).empty}),
    (derived.seen_from, lambda: {"origin": STAND}), (derived.seen, lambda: {"stand": OTHER, "origin": STAND}),
    (plays.play, lambda: {"company": company(), "items": (("spent",), ("put", "x", "d"))}),
    (plays.within, lambda: {"block": company().trial(), "call": lambda given: type(given).__name__}),
)


def plain(value):
    """What a value tells, so that values of two calls can be compared."""
    if isinstance(value, types.GeneratorType):
        return [plain(one) for one in value]
    if isinstance(value, Company):
        return told(value)
    if isinstance(value, Crowd):
        return [(name, value[name], value.load(name)) for name in value.names]
    if isinstance(value, Exception):
        return type(value), vars(value)
    if type(value).__name__ in CLASSES_MADE_BY_A_COMPANY:
        return type(value)
    return len(value) if isinstance(value, Desk) else value


def outcome(function, /, *values, **named):
    """What a function returns, or the error that it raises."""
    try:
        return plain(function(*values, **named))
    except (ValueError, KeyError) as error:
        return "raised", type(error), vars(error)


def split(arguments):
    """The arguments before the star, and those behind it."""
    names = list(arguments)
    at = names.index("*") if "*" in names else len(names)
    return {name: arguments[name] for name in names[:at]}, {name: arguments[name] for name in names[at + 1:]}


class CallTest(unittest.TestCase):
    def check(self, call_of, arguments):
        """By position, by name in every order, and with lists for tuples."""
        first, named = split(arguments)
        expected = outcome(call_of(), *first.values(), **named)
        self.assertFalse(isinstance(expected, tuple) and expected[:2] == ("raised", errors.NoPeg))
        names = list(first) + list(named)
        for order in itertools.permutations(names):
            self.assertEqual(outcome(call_of(), **{name: {**first, **named}[name] for name in order}), expected)
        for many in range(len(first)):
            rest = dict(list(first.items())[many:])
            self.assertEqual(outcome(call_of(), *list(first.values())[:many], **rest, **named), expected)
        for name in named:
            with self.assertRaises(TypeError):
                call_of()(*first.values(), named[name])

    def test_methods(self):
        for made, name, arguments in METHODS:
            with self.subTest(name, of=made):
                self.check(lambda: getattr(made(), name), arguments)

    def test_classes(self):
        for kind, arguments in MADE:
            with self.subTest(kind):
                self.check(lambda: kind, arguments)

    def test_functions(self):
        for call, arguments_of in FUNCTION_CALLS:
            with self.subTest(call):
                names = list(arguments_of())
                expected = outcome(call, *arguments_of().values())
                for order in itertools.permutations(names):
                    values = arguments_of()
                    self.assertEqual(outcome(call, **{name: values[name] for name in order}), expected)

    def test_what_is_kept_in_errors_by_name(self):
        for kind, arguments in MADE:
            if issubclass(kind, Exception):
                self.assertEqual(vars(kind(**arguments)), arguments)
                self.assertEqual(vars(kind(*arguments.values())), arguments)

    def test_all_that_the_interface_lists_is_called_here(self):
        called = {name for _, name, _ in METHODS} | {"__init__"}
        for module, classes in INTERFACE.items():
            for name, members in classes.items():
                for member, parameters in members.items():
                    if parameters not in (None, ("self",)) and not {"pegs", "self"} == set(parameters):
                        self.assertTrue(member in called or member.startswith("__"), (name, member))
        made = {kind.__name__ for kind, _ in MADE} | {"Turn"} | set(CLASSES_MADE_BY_A_COMPANY)
        self.assertEqual({name for classes in INTERFACE.values() for name in classes} - made, set())
        functions = {name for row in FUNCTIONS.values() for name in row}
        self.assertEqual(functions, {call.__name__ for call, _ in FUNCTION_CALLS})

    def test_pegs_by_position_alone(self):
        for call in (example().stand, company().held, company().guarded):
            self.assertIsNotNone(call("a", "d"))
            self.assertIsNotNone(call())
            with self.assertRaises(TypeError):
                call(pegs=("a",))
            kinds = [one.kind for one in inspect.signature(call).parameters.values()]
            self.assertEqual(kinds, [inspect.Parameter.VAR_POSITIONAL])


class DefaultTest(unittest.TestCase):
    def test_defaults_left_out(self):
        self.assertEqual(Board(PEGS), Board(PEGS, needs=(), bars=(), costs=None))
        self.assertEqual(Board(PEGS, costs=COSTS, needs=NEEDS), Board(PEGS, needs=NEEDS, bars=(), costs=COSTS))
        self.assertEqual((Way(example()), Wish(), Wish(("a",))), (Way(example(), ()), Wish((), ()), Wish(("a",), ())))
        self.assertEqual(crowd().best(), crowd().best(wish=None))
        self.assertEqual((crowd().bound(), crowd().is_best(OTHER)), (crowd().bound(wish=None), True))
        self.assertEqual(list(crowd().all_best()), list(crowd().all_best(wish=None)))
        self.assertIsNone(Company(example()).budget)
        one, other = company(), company()
        one.enter("z")
        other.enter("z", 1)
        self.assertEqual((one.gather(), other.gather(wish=None)), (3, 3))
        self.assertEqual(told(one), told(other))
        for named in ({}, {"whole": True}):
            with self.assertRaises(errors.Broken):
                one.several((("leave", "z"), ("leave", "z")), **named)
            self.assertEqual(one.names, ("x", "z"))


class ListTest(unittest.TestCase):
    def test_a_list_where_an_argument_is_a_tuple(self):
        self.assertEqual(Board(list(PEGS), needs=list(NEEDS), bars=list(BARS), costs=list(COSTS)), example())
        self.assertEqual((Stand(example(), ["b", "a"]), example()(["b", "a"])), (STAND, STAND))
        self.assertEqual(Way(example(), [Put("a")]), Way(example(), (Put("a"),)))
        self.assertEqual(Wish(["c"], ["d"]), WISH)
        self.assertEqual(wishes.around([STAND, OTHER]), wishes.around((STAND, OTHER)))
        self.assertEqual(Board.of_family([[], ["a"]]), Board.of_family(((), ("a",))))
        self.assertIs(families.witness_holds([["a"]], "empty", ()), True)
        self.assertEqual(company().several([("put", "x", "d")]), 2)
        self.assertEqual(plays.play(company(), [("put", "x", "d")]), (2,))

    def test_no_list_where_any_value_is_checked(self):
        rows = between.rounds(STAND, OTHER)
        self.assertIs(between.rounds_lead(STAND, OTHER, list(rows)), False)
        self.assertIs(Wish(("b", "c")).obstacle_holds(example(), ["bars", "b", "c"]), False)
        self.assertIs(families.witness_holds(((), ("a", "b")), "fixed", [("a", "b")]), False)
        self.assertEqual(plays.play(company(), [["put", "x", "d"]]), (("ended", 0),))
        with self.assertRaises(errors.Broken):
            company().several([["put", "x", "d"]])


class ResultTest(unittest.TestCase):
    def test_kinds_of_results(self):
        whole = company()
        for value in (
            STAND.pegs, STAND.free, STAND.loose, STAND ^ OTHER, between.precedence(STAND, OTHER), between.rounds(STAND, OTHER),
            between.longest_chain(STAND, OTHER), WISH.inside, WISH.forced(example()), crowd().names, whole.names,
            whole.held_pegs, families.family_of(example()), wishes.gap(example(), WISH, Wish()), plays.play(whole, ()),
        ):
            self.assertIs(type(value), tuple)
        self.assertIs(type(whole.log()), list)

    def test_what_is_made_anew_by_each_call(self):
        whole = company()
        for call in (whole.crowd, whole.copied, whole.held, whole.trial, whole.guarded, whole.log):
            self.assertIsNot(call(), call())


if __name__ == "__main__":
    unittest.main()
