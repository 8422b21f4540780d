"""Companies: [45] to [50]."""

import itertools
import unittest

from rough import Refused, Rough
from samples import (
    BARS, COSTS, NEEDS, ODD, PEGS, Model, caught, example, example_again, grown, models, numbers, strange_boards,
)

from needpegs.boards import Board
from needpegs.company import Company
from needpegs.crowds import Crowd
from needpegs.errors import Held, NoMatch
from needpegs.turns import Turn
from needpegs.ways import Way
from needpegs.wishes import Wish

NAMES = ("x", "b", "abcdef", "a", "w", "zz", "c", "u")


def told(company):
    """All that can be asked of a company."""
    rows = [(name, company.stand(name).pegs, company.load(name)) for name in company.names]
    return rows, company.log(), company.spent, company.budget, company.held_pegs


def do(company, board, item):
    """Makes the deed that an item of a right form describes by the method for it."""
    word, values = item[0], item[1:]
    if word == "walk":
        return company.walk(values[0], Way(board, [Turn.read(text) for text in values[1]]))
    if word == "obey":
        return company.obey(values[0], Wish(values[1], values[2]))
    if word == "gather":
        return company.gather(wish=Wish(*values))
    methods = {"enter": company.enter, "leave": company.leave, "put": company.put_in, "take": company.take_out}
    return methods[word](*values)


def outcome(call, *values):
    """What a call returns, or the error that it raises, of Unmet only the name."""
    try:
        return call(*values)
    except Refused as error:
        return error.told
    except (ValueError, KeyError) as error:
        name = type(error).__name__
        return (name,) if name == "Unmet" else (name, *vars(error).values())


def example_pair(budget=None):
    """A company on the example, and the second company for the same board."""
    return Company(example(), budget=budget), Rough(Model(PEGS, NEEDS, BARS), dict(zip(PEGS, COSTS)), budget)


def example_company(*rows, budget=None):
    """A company on the example with walkers that are told by name, pegs and load: two deeds for each."""
    company = Company(example(), budget=budget)
    for name, pegs, load in rows:
        company.enter(name, load)
        company.obey(name, Wish(pegs))
    return company


def full():
    return example_company(*[(name, (), 1) for name in NAMES])


class DeedTest(unittest.TestCase):
    def test_example(self):
        company = Company(example(), budget=20)
        costs = [company.enter("x", 2), company.put_in("x", "a"), company.obey("x", Wish(("c",)))]
        self.assertEqual((costs, company.spent, company.log()[2]), ([0, 2, 6], 8, ("obey", "x", ("c",), ())))
        self.assertEqual(caught(company.take_out, "x", "a"), ("Needed", "a", "c"))
        with company.held("c"):
            self.assertEqual(caught(company.take_out, "x", "c"), ("Held", "c"))
        with company.trial() as trial:
            company.take_out("x", "c")
            company.take_out("x", "a")
            self.assertEqual((company.stand("x").pegs, trial.paid), ((), 8))
        self.assertEqual(company.stand("x").pegs, ("a", "c"))

    def test_each_deed_with_its_cost_and_its_item(self):
        company, board = Company(example()), example()
        self.assertEqual((company.enter("x", 5), company.enter("y"), company.enter("z", load=1000)), (0, 0, 0))
        self.assertEqual((company.load("x"), company.load("y"), company.load("z")), (5, 1, 1000))
        self.assertEqual(company.put_in("x", "a"), 5)
        self.assertEqual(company.put_in("x", "b"), 10)
        self.assertEqual(company.take_out("x", "b"), 10)
        self.assertEqual(company.walk("x", Way.read(board, "+c -c +d")), 35)
        self.assertEqual(company.walk("y", Way(board)), 0)
        self.assertEqual(company.obey("z", Wish(["b", "a"], ["d"])), 3000)
        self.assertEqual(company.gather(), 15 + 3)
        self.assertEqual(company.gather(wish=Wish((), ("b",))), 2 * 1006)
        self.assertEqual(company.leave("y"), 0)
        self.assertEqual(company.log(), [
            ("enter", "x", 5), ("enter", "y", 1), ("enter", "z", 1000), ("put", "x", "a"), ("put", "x", "b"),
            ("take", "x", "b"), ("walk", "x", ("+c", "-c", "+d")), ("walk", "y", ()),
            ("obey", "z", ("a", "b"), ("d",)), ("gather", (), ()), ("gather", (), ("b",)), ("leave", "y"),
        ])
        self.assertEqual(company.spent, 5 + 10 + 10 + 35 + 3000 + 18 + 2012)
        self.assertEqual((company.names, company.stand("x").pegs, company.stand("z").pegs), (("x", "z"), ("a",), ("a",)))

    def test_at_first(self):
        company = Company(example())
        self.assertEqual(told(company), ([], [], 0, None, ()))
        self.assertEqual((len(company), company.names, repr(company)), (0, (), "Company(0 walkers, 0 spent)"))
        self.assertEqual(told(Company(example(), budget=0)), ([], [], 0, 0, ()))

    def check(self, pair, board, item):
        """The same deed of both companies, which go on alike, also behind an error."""
        company, rough = pair
        before = told(company)
        found, expected = outcome(do, company, board, item), outcome(rough.deed, item)
        self.assertEqual(found, expected, item)
        self.assertEqual(told(company), rough.told())
        if isinstance(found, tuple):
            self.assertEqual(told(company), before)

    def items(self):
        for name in ("x", "q", "y", ""):
            yield ("leave", name)
            for peg in PEGS + ("e", ""):
                yield ("put", name, peg)
                yield ("take", name, peg)
            for texts in ("", "+a", "-a +a", "+a +b -b +c", "+d -d", "-d +d", "-b -a", "-c", "+d +d", "+b +c"):
                yield ("walk", name, tuple(texts.split()))
            for sides in ("", "a", "a b", "c", "b c", "d d", "d e", "e", "c d", "z b c"):
                names = sides.split()
                yield ("obey", name, tuple(names), ())
                yield ("obey", name, tuple(names[:1]), tuple(names[1:]))
                yield ("obey", name, (), tuple(names))
        for sides in ((), ("a",), ("b",), ("c",), ("b", "c"), ("e",), ("d", "a", "d")):
            yield ("gather", sides, ())
            yield ("gather", (), sides)

    def test_every_deed_at_every_stand_with_held_pegs_and_budgets(self):
        stands = Model(PEGS, NEEDS, BARS).stands()
        items = list(self.items())
        for at, pegs in enumerate(stands):
            for held in ((), ("a",), ("b",), ("c", "d"), PEGS):
                for more in (None, 0, 2, 6):
                    self.check_all(pegs, stands[(at + 3) % 8], held, more, items)

    def check_all(self, pegs, other, held, more, items):
        company, rough = example_pair()
        for item in (("enter", "x", 2), ("obey", "x", pegs, ()), ("enter", "y", 1), ("obey", "y", other, ())):
            self.check((company, rough), example(), item)
        if more is not None:
            company.budget = rough.limit = company.spent + more
        rough.held = set(held)
        with company.held(*held):
            for item in items:
                spare, second = company.copied(), Rough(rough.model, rough.costs)
                second.restore(rough.saved())
                second.held = rough.held
                with spare.held(*held):
                    self.check((spare, second), example(), item)

    def test_long_rows_of_deeds(self):
        for seed in range(12):
            pegs, needs, bars, costs = grown(6, seed)
            board, model = Board(pegs, needs=needs, bars=bars, costs=costs), Model(pegs, needs, bars)
            draw, limit = numbers(seed), None if seed % 3 == 0 else 3000 * seed
            pair = Company(board, budget=limit), Rough(model, dict(zip(pegs, costs)), limit)
            for _ in range(150):
                if next(draw) % 5 == 0:
                    self.assertEqual(outcome(pair[0].undo), outcome(pair[1].undo))
                    self.assertEqual(told(pair[0]), pair[1].told())
                else:
                    self.check(pair, board, some_item(draw, pegs))

    def test_walkers_of_an_equal_board(self):
        company = Company(example())
        company.enter("x")
        self.assertEqual(company.walk("x", Way.read(example_again(), "+a +b")), 3)
        self.assertEqual(company.stand("x"), example_again()(("a", "b")))


def some_item(draw, pegs):
    """Some deed, right or wrong, with few names."""
    name, peg = ("x", "b", "yy", "zzz")[next(draw) % 4], pegs[next(draw) % len(pegs)]
    sides = [tuple(peg for peg in pegs if next(draw) % 6 == 0) for _ in range(2)]
    turns = tuple(("+-"[next(draw) % 2]) + pegs[next(draw) % len(pegs)] for _ in range(next(draw) % 3))
    return (
        ("enter", name, (1, 2, 7, 1000)[next(draw) % 4]), ("leave", name) if next(draw) % 4 == 0 else ("put", name, peg),
        ("put", name, peg), ("take", name, peg), ("walk", name, turns), ("obey", name, *sides), ("gather", *sides),
        ("obey", name, (peg,), ()),
    )[next(draw) % 8]


class ErrorTest(unittest.TestCase):
    """Each error ahead of those that stand behind it, and nothing changed by it."""

    def refused(self, company, error, call, *values, **named):
        before = told(company)
        self.assertEqual(caught(call, *values, **named), error)
        self.assertEqual(told(company), before)

    def test_enter(self):
        loads = (0, 1, 1000, 1001, -1, 10 ** 20)
        for company in (example_company(("x", (), 1)), full()):
            for name, load in itertools.product(("", "A", "abcdefg", "a b", "a1", "x"), loads):
                self.refused(company, ("NoDeed", "name"), company.enter, name, load)
            for load in (0, 1001, -1, 10 ** 20):
                self.refused(company, ("NoDeed", "load"), company.enter, "q", load)
        company = full()
        for load in (1, 1000):
            self.refused(company, ("NoDeed", "full"), company.enter, "q", load)
        company.leave("w")
        self.assertEqual((company.enter("q"), len(company)), (0, 8))
        self.refused(company, ("NoDeed", "full"), company.enter, "w")

    def test_put_in_and_take_out(self):
        company = example_company(("x", ("a", "b"), 2), budget=6)
        with company.held("a", "c"):
            for call in (company.put_in, company.take_out):
                for peg in ("a", "d", "e"):
                    self.refused(company, ("NoWalker", "y"), call, "y", peg)
                self.refused(company, ("NoPeg", "e"), call, "x", "e")
                self.refused(company, ("Held", "a"), call, "x", "a")
                self.refused(company, ("Held", "c"), call, "x", "c")
            self.refused(company, ("NoTurn", "b"), company.put_in, "x", "b")
            self.refused(company, ("NoTurn", "d"), company.take_out, "x", "d")
            self.refused(company, ("Spent", 2), company.put_in, "x", "d")
            self.refused(company, ("Spent", 4), company.take_out, "x", "b")
        self.refused(company, ("Barred", "c", "b"), company.put_in, "x", "c")
        self.refused(company, ("Needed", "a", "b"), company.take_out, "x", "a")
        company.enter("y")
        self.refused(company, ("Missing", "b", "a"), company.put_in, "y", "b")

    def test_walk(self):
        company = example_company(("x", ("a", "b"), 2), budget=6)
        strange = [Way(board) for board in strange_boards()]
        for way in strange + [Way.read(example(), "+a")]:
            self.refused(company, ("NoWalker", "y"), company.walk, "y", way)
        with company.held("d", "c"):
            for way in strange + [Way.read(board, text) for board in strange_boards() for text in ("+a", "+c", "-b +c")]:
                self.refused(company, ("NoMatch", "board"), company.walk, "x", way)
            for text, peg in (("+a +d +c", "d"), ("+c +d", "c"), ("-b +b -d", "d"), ("-b +a -a +c", "c")):
                self.refused(company, ("Held", peg), company.walk, "x", Way.read(example(), text))
            self.refused(company, ("Stuck", 1), company.walk, "x", Way.read(example(), "-b -b +b"))
            self.refused(company, ("Spent", 8), company.walk, "x", Way.read(example(), "-b +b"))
        self.refused(company, ("Stuck", 0), company.walk, "x", Way.read(example(), "+c"))
        self.assertEqual(company.walk("x", Way(example())), 0)

    def test_obey(self):
        company = example_company(("x", ("a", "b", "d"), 2), budget=8)
        no_peg, unmet = Wish(("b", "c", "z"), ("y",)), Wish(("b", "c"))
        with company.held("b", "c", "d"):
            for wish in (no_peg, unmet, Wish(("c",)), Wish()):
                self.refused(company, ("NoWalker", "y"), company.obey, "y", wish)
            self.refused(company, ("NoPeg", "z"), company.obey, "x", no_peg)
            self.assertEqual(outcome(company.obey, "x", unmet), ("Unmet",))
            self.refused(company, ("Held", "b"), company.obey, "x", Wish(("c",), ("d",)))
            self.refused(company, ("Held", "d"), company.obey, "x", Wish((), ("d",)))
            self.refused(company, ("Held", "b"), company.obey, "x", Wish((), ("a",)))
            self.assertEqual(company.obey("x", Wish(("b",))), 0)
        self.refused(company, ("Spent", 10), company.obey, "x", Wish(("c",)))
        self.refused(company, ("Spent", 2), company.obey, "x", Wish((), ("d",)))

    def test_gather(self):
        company = example_company(("x", ("a", "b"), 3), ("y", ("a", "c"), 1), ("z", ("d",), 1), budget=9 + 4 + 1)
        no_peg, unmet = Wish(("b", "c", "z"), ("y",)), Wish(("b", "c"))
        for one in (company, Company(example(), budget=0)):
            with one.held("b", "c", "d"):
                self.refused(one, ("NoPeg", "z"), one.gather, wish=no_peg)
                self.assertEqual(outcome(lambda: one.gather(wish=unmet)), ("Unmet",))
        with company.held("d", "c", "b"):
            self.refused(company, ("Held", "b"), company.gather)
            self.refused(company, ("Held", "b"), company.gather, wish=Wish(("c",)))
        with company.held("d"):
            self.refused(company, ("Held", "d"), company.gather)
        with company.held("c"):
            self.refused(company, ("Held", "c"), company.gather)
        self.refused(company, ("Spent", 9), company.gather)
        company.budget = 23
        self.assertEqual((company.gather(), company.spent), (9, 23))
        self.assertEqual([company.stand(name).pegs for name in "xyz"], [("a", "b")] * 3)
        with company.held(*PEGS):
            self.assertEqual((company.gather(), company.spent), (0, 23))

    def test_gather_without_walkers(self):
        company = Company(example(), budget=0)
        self.assertEqual((company.gather(), company.gather(wish=Wish(("b",)))), (0, 0))
        self.assertEqual(company.log(), [("gather", (), ()), ("gather", ("b",), ())])
        self.assertEqual(caught(lambda: company.gather(wish=Wish(("e",)))), ("NoPeg", "e"))
        self.assertEqual(outcome(lambda: company.gather(wish=Wish(("b", "c")))), ("Unmet",))

    def test_leave_and_asking(self):
        company = example_company(("x", (), 2))
        for call in (company.leave, company.stand, company.load):
            for name in ("y", "", "X", "xx"):
                self.refused(company, ("NoWalker", name), call, name)
        for name, expected in (("x", True), ("y", False), ("", False)):
            self.assertIs(name in company, expected)


class BudgetTest(unittest.TestCase):
    def test_at_the_budget_and_one_beyond_it(self):
        deeds = (("put", "x", "d"), ("walk", "x", ("+d", "-d", "+a")), ("obey", "x", ("c",), ()), ("gather", ("b",), ()))
        for item, cost in zip(deeds, (3, 9, 12, 9)):
            for spare, enough in ((cost - 1, False), (cost, True)):
                company = Company(example(), budget=6 + spare)
                company.enter("x", 3)
                company.walk("x", Way.read(example(), "+d -d"))
                found = outcome(do, company, example(), item)
                self.assertEqual(found, cost if enough else ("Spent", cost))
                self.assertEqual(company.spent, 6 + cost if enough else 6)

    def test_calls_that_change_no_peg_and_cost_nothing(self):
        company = Company(example(), budget=0)
        for item in (("enter", "x", 1000), ("walk", "x", ()), ("obey", "x", (), ("a",)), ("gather", (), ()), ("leave", "x")):
            self.assertEqual(do(company, example(), item), 0)
        self.assertEqual((len(company.log()), company.spent), (5, 0))
        self.assertEqual([company.undo() for _ in range(6)], [True] * 5 + [False])

    def test_assigning(self):
        company = example_company(("x", ("a", "b"), 2))
        for value in (6, 7, None, 1000, 6, None):
            company.budget = value
            self.assertEqual(company.budget, value)
        company.budget = 8
        for value in (5, 0, -1, -10 ** 20):
            self.assertEqual(caught(setattr, company, "budget", value), ("NoDeed", "budget"))
            self.assertEqual(company.budget, 8)
        self.assertEqual(caught(company.put_in, "x", "d"), None)
        self.assertEqual(caught(company.take_out, "x", "d"), ("Spent", 2))
        self.assertEqual((len(company.log()), company.spent), (3, 8))

    def test_it_is_no_deed_and_undo_leaves_it(self):
        company = example_company(("x", ("a", "b"), 2), budget=6)
        company.budget = 9
        self.assertIs(company.undo(), True)
        self.assertEqual((company.budget, company.spent, company.log()), (9, 0, [("enter", "x", 2)]))
        company.budget = 0
        self.assertEqual(caught(company.put_in, "x", "a"), ("Spent", 2))
        company.budget = None
        self.assertEqual(company.put_in("x", "a"), 2)

    def test_costs_of_walkers_that_left_count(self):
        company = example_company(("x", ("a", "b"), 2), budget=7)
        company.leave("x")
        company.enter("y")
        self.assertEqual((company.spent, caught(company.obey, "y", Wish(("b",)))), (6, ("Spent", 3)))
        self.assertEqual(caught(setattr, company, "budget", 5), ("NoDeed", "budget"))

    def test_enter_and_leave_at_the_budget(self):
        company = example_company(("x", ("a",), 2), budget=2)
        self.assertEqual((company.enter("y", 1000), company.leave("x"), company.enter("x")), (0, 0, 0))


class UndoTest(unittest.TestCase):
    def deeds(self):
        return (
            ("enter", "x", 2), ("enter", "y", 5), ("put", "x", "a"), ("put", "x", "b"), ("walk", "y", ("+a", "+c", "-c")),
            ("take", "x", "b"), ("obey", "x", ("c",), ()), ("enter", "z", 1), ("gather", (), ()), ("leave", "x"),
            ("gather", ("d",), ("a",)), ("enter", "x", 9), ("leave", "y"), ("walk", "x", ()), ("leave", "z"), ("leave", "x"),
        )

    def test_every_kind_down_to_the_very_beginning(self):
        company, states = Company(example(), budget=500), []
        for item in self.deeds():
            states.append(told(company))
            do(company, example(), item)
        for state in states[::-1]:
            self.assertIs(company.undo(), True)
            self.assertEqual(told(company), state)
        self.assertIs(company.undo(), False)
        self.assertEqual(told(company), ([], [], 0, 500, ()))

    def test_a_walker_who_left_comes_back_in_place(self):
        company = example_company(("x", ("a", "b"), 2), ("y", ("d",), 3), ("z", (), 4))
        before = told(company)
        company.leave("y")
        self.assertEqual(company.names, ("x", "z"))
        self.assertIs(company.undo(), True)
        self.assertEqual(told(company), before)
        company.leave("y")
        company.enter("y", 7)
        self.assertEqual((company.names, company.stand("y").pegs, company.load("y")), (("x", "z", "y"), (), 7))
        self.assertEqual((company.undo(), company.undo()), (True, True))
        self.assertEqual(told(company), before)

    def test_held_pegs(self):
        company = example_company(("x", ("a", "b"), 2), ("y", ("a", "c"), 1), ("z", ("d",), 1))
        company.gather()
        before = told(company)
        for held, first in ((("d", "c", "b"), "b"), (("d", "c"), "c"), (("d",), "d"), (("a", "d"), "a")):
            with company.held(*held):
                self.assertEqual(caught(company.undo), ("Held", first))
                self.assertEqual(told(company)[:4], before[:4])
        with company.held():
            self.assertIs(company.undo(), True)
        self.assertEqual(company.stand("z").pegs, ("d",))

    def test_held_pegs_do_not_matter_for_who_comes_or_goes(self):
        company = example_company(("x", ("a", "b"), 2), ("y", ("d",), 1))
        company.leave("x")
        with company.held(*PEGS):
            self.assertIs(company.undo(), True)
            self.assertEqual(company.stand("x").pegs, ("a", "b"))
            self.assertEqual(caught(company.undo), ("Held", "d"))
        company = Company(example())
        company.enter("x")
        with company.held(*PEGS):
            self.assertEqual((company.undo(), company.undo()), (True, False))

    def test_a_way_there_and_back_is_taken_back_while_its_pegs_are_held(self):
        company = example_company(("x", ("a",), 2))
        company.walk("x", Way.read(example(), "+b -b +d"))
        with company.held("b"):
            self.assertIs(company.undo(), True)
        company.walk("x", Way.read(example(), "+b -b +d"))
        with company.held("b", "d"):
            self.assertEqual(caught(company.undo), ("Held", "d"))

    def test_undo_returns_what_was_spent(self):
        company = example_company(("x", ("a", "b"), 2), budget=6)
        self.assertEqual(caught(company.put_in, "x", "d"), ("Spent", 2))
        company.undo()
        self.assertEqual((company.spent, company.put_in("x", "d")), (0, 2))


class SeveralTest(unittest.TestCase):
    RIGHT = (
        ("enter", "x", 3), ("put", "x", "a"), ("put", "x", "b"), ("take", "x", "b"), ("walk", "x", ("+d", "-d")),
        ("walk", "x", ()), ("obey", "x", ("c",), ("d",)), ("obey", "x", (), ()), ("gather", (), ("c",)), ("gather", (), ()),
        ("enter", "y", 1000), ("leave", "x"),
    )

    def test_right_items_of_every_form(self):
        company, rough = example_pair()
        self.assertEqual(company.several(self.RIGHT), rough.several(self.RIGHT))
        self.assertEqual(told(company), rough.told())
        self.assertEqual(company.log(), list(self.RIGHT))
        again = Company(example())
        self.assertEqual(again.several(list(self.RIGHT), whole=False), company.spent)
        self.assertEqual(told(again), told(company))
        self.assertEqual((again.several(()), again.several([]), again.several((), whole=False)), (0, 0, 0))

    def test_each_deed_counts_by_itself(self):
        company = Company(example())
        company.several(self.RIGHT)
        for at in range(len(self.RIGHT))[::-1]:
            self.assertIs(company.undo(), True)
            self.assertEqual(company.log(), list(self.RIGHT[:at]))
        self.assertIs(company.undo(), False)

    def wrong_items(self):
        yield from ODD
        yield from (
            ("Enter", "x", 1), ("enter ", "y", 1), ("", "x"), ("undo",), ("spent",), ("stand", "x"), ("trial", ()),
            ("held", ("a",), ()), ("put_in", "x", "a"), (None, "x"), (("enter",), "y", 1), (["enter"], "y", 1), "enter",
        )
        for item in self.RIGHT:
            yield item[:-1]
            yield item + (item[-1],)
            yield list(item)
            yield (item,)
            yield [item]
            for at in range(1, len(item)):
                for odd in ODD:
                    if type(odd) is not type(item[at]) or type(odd) is tuple:
                        yield item[:at] + (odd,) + item[at + 1:]
        yield from (("enter", "y", True), ("enter", "y", False), ("enter", "y", "1"), ("enter", "y"))
        yield from (("walk", "x", ["+d"]), ("walk", "x", ("+d", None)), ("walk", "x", "+d"), ("walk", "x", (("+d",),)))
        for text in ("", "d", "+", "+D", "++d", "+d ", " +d", "+d +d", "+abcdefg", "*d", "+d1"):
            yield ("walk", "x", (text,))
            yield ("walk", "x", ("+d", text))
        yield from (("obey", "x", ["a"], ()), ("obey", "x", (), ["a"]), ("obey", "x", "a", ()), ("obey", "x", (1,), ()))
        yield from (("gather", ["a"], ()), ("gather", (), []), ("gather",), ("gather", ()), ("gather", (("a",),), ()))

    def test_wrong_items(self):
        first = (("enter", "x", 3), ("put", "x", "a"))
        for item in self.wrong_items():
            with self.subTest(item=item):
                self.check_broken(first, item)

    def check_broken(self, first, item):
        """An item breaks the row exactly if it breaks that of the second company, in the same way."""
        rows = (first + (item,), first + (item, ("put", "x", "d")), (item,) + first, [*first, item, item])
        for row in rows:
            for named in ({}, {"whole": True}, {"whole": False}):
                company, rough = example_pair()
                kept = repr(row)
                found = outcome(lambda: company.several(row, **named))
                self.assertEqual(found, outcome(lambda: rough.several(row, **named)))
                self.assertEqual(told(company), rough.told())
                self.assertEqual(repr(row), kept)

    def test_deeds_that_raise_errors(self):
        first = (("enter", "x", 3), ("put", "x", "a"))
        for item in (
            ("enter", "x", 1), ("enter", "X", 1), ("enter", "y", 0), ("enter", "y", 1001), ("enter", "y", -1), ("leave", "y"),
            ("put", "y", "a"), ("put", "x", "e"), ("put", "x", ""), ("put", "x", "a"), ("take", "x", "d"), ("put", "", "a"),
            ("walk", "y", ("+d",)), ("walk", "x", ("+e",)), ("walk", "x", ("+d", "+d")), ("walk", "y", ("+e",)),
            ("obey", "y", (), ()), ("obey", "x", ("e",), ()), ("obey", "x", ("b", "c"), ()), ("obey", "x", ("",), ()),
            ("gather", ("e",), ()), ("gather", ("d",), ("d",)), ("gather", (), ("A",)),
        ):
            self.check_broken(first, item)
            self.assertEqual(caught(Company(example()).several, first + (item,)), ("Broken", 2))

    def test_at_the_budget(self):
        row = (("enter", "x", 3), ("put", "x", "a"), ("put", "x", "d"), ("take", "x", "d"))
        for budget in range(11):
            for whole in (True, False):
                company, rough = example_pair(budget)
                found = outcome(lambda: company.several(row, whole=whole))
                self.assertEqual(found, outcome(lambda: rough.several(row, whole)))
                self.assertEqual(told(company), rough.told())

    def test_within_holds_and_trials(self):
        row = (("put", "x", "d"), ("take", "x", "a"), ("put", "x", "a"))
        for whole in (True, False):
            company = example_company(("x", ("a",), 1))
            before = told(company)
            with company.trial() as trial:
                with company.held("a"):
                    self.assertEqual(caught(lambda: company.several(row, whole=whole)), ("Broken", 1))
                    self.assertEqual(company.stand("x").pegs, ("a",) if whole else ("a", "d"))
                    self.assertEqual(trial.paid, 0 if whole else 1)
                    self.assertEqual(company.held_pegs, ("a",))
                self.assertEqual(company.undo(), not whole)
                self.assertIs(company.undo(), False)
                self.assertEqual(company.several(row), 3)
                self.assertEqual(caught(lambda: company.several(row, whole=whole)), ("Broken", 0))
            self.assertEqual(told(company), before)

    def test_thirty_deeds(self):
        company = Company(example())
        row = (("enter", "x", 1),) + (("put", "x", "d"), ("take", "x", "d")) * 14 + (("leave", "x"),)
        self.assertEqual((company.several(row), company.log()), (28, list(row)))
        self.assertEqual(caught(company.several, row + (("leave", "x"),)), ("Broken", 30))
        self.assertEqual(company.log(), list(row))

    def test_keywords(self):
        company = Company(example())
        self.assertEqual(company.several(whole=False, deeds=self.RIGHT[:2]), 3)
        with self.assertRaises(TypeError):
            company.several((), False)


class LogTest(unittest.TestCase):
    def test_a_new_list_each_time(self):
        company = example_company(("x", ("a",), 2))
        company.log().clear()
        company.log().append("x")
        self.assertEqual(company.log(), [("enter", "x", 2), ("obey", "x", ("a",), ())])
        self.assertIsNot(company.log(), company.log())
        self.assertIs(type(company.log()), list)

    def test_names_of_wishes_as_the_wish_has_them(self):
        company = example_company(("x", (), 2))
        company.obey("x", Wish(["b", "a", "b"], ["d", "c", "c"]))
        company.gather(wish=Wish(["d", "a", "d"]))
        company.gather()
        expected = [("obey", "x", ("a", "b"), ("c", "d")), ("gather", ("a", "d"), ()), ("gather", (), ())]
        self.assertEqual(company.log()[2:], expected)

    def test_carried_out_again_in_a_new_company(self):
        for seed in range(10):
            pegs, needs, bars, costs = grown(6, seed)
            board, draw = Board(pegs, needs=needs, bars=bars, costs=costs), numbers(seed)
            company = Company(board)
            for _ in range(30):
                outcome(do, company, board, some_item(draw, pegs))
                if next(draw) % 8 == 0:
                    company.undo()
            again = Company(board)
            self.assertEqual(again.several(company.log()), company.spent)
            self.assertEqual(told(again), told(company))


class CopyTest(unittest.TestCase):
    def test_a_crowd_goes_on_by_itself(self):
        company = example_company(("x", ("a", "b"), 2), ("y", ("d",), 3))
        crowd = company.crowd()
        self.assertIsInstance(crowd, Crowd)
        self.assertIsNot(company.crowd(), crowd)
        self.assertEqual([(name, crowd[name].pegs, crowd.load(name)) for name in crowd.names], told(company)[0])
        before = told(company)
        crowd["x"], crowd["z"] = example().empty, example().empty
        crowd.set_load("y", 9)
        crowd.drop("x")
        self.assertEqual(told(company), before)
        company.leave("y")
        self.assertEqual((crowd.names, crowd.load("y"), crowd["y"].pegs), (("y", "z"), 9, ("d",)))
        self.assertEqual((len(Company(example()).crowd()), crowd.best()), (0, example()(("d",))))

    def test_a_copy_goes_on_by_itself(self):
        company = example_company(("x", ("a", "b"), 2), ("y", ("d",), 3), budget=20)
        copy = company.copied()
        self.assertIsInstance(copy, Company)
        self.assertEqual(told(copy), told(company))
        before = told(company)
        copy.leave("x")
        copy.put_in("y", "a")
        copy.budget = None
        self.assertEqual(told(company), before)
        company.put_in("x", "d")
        company.budget = 15
        self.assertEqual(told(copy), ([("y", ("a", "d"), 3)], before[1] + [("leave", "x"), ("put", "y", "a")], 12, None, ()))
        while copy.undo():
            pass
        self.assertEqual(told(copy), ([], [], 0, None, ()))

    def test_a_copy_of_a_copy(self):
        company = example_company(("x", ("a", "b"), 2), budget=9)
        copies = [company, company.copied(), company.copied().copied()]
        for one in copies:
            self.assertEqual(told(one), told(company))
        copies[2].undo()
        self.assertEqual([one.spent for one in copies], [6, 6, 0])
        copies[1].leave("x")
        self.assertEqual([len(one) for one in copies], [1, 0, 1])

    def test_a_copy_made_within_blocks(self):
        company = example_company(("x", ("a", "b"), 2), budget=30)
        with company.held("a"), company.trial():
            company.put_in("x", "d")
            with company.guarded("d"):
                company.take_out("x", "b")
                copy, whole = company.copied(), told(company)
            self.assertEqual(company.held_pegs, ("a",))
        self.assertEqual(told(copy), whole[:4] + ((),))
        self.assertEqual(told(company)[0], [("x", ("a", "b"), 2)])
        self.assertEqual([copy.undo() for _ in range(5)], [True, True, True, True, False])
        self.assertEqual(told(company)[2], 6)

    def test_blocks_of_a_copy_are_its_own(self):
        company = example_company(("x", ("a",), 2))
        copy = company.copied()
        with company.held("a"), copy.trial():
            self.assertEqual((company.held_pegs, copy.held_pegs), (("a",), ()))
            copy.take_out("x", "a")
            company.put_in("x", "d")
        self.assertEqual((company.stand("x").pegs, copy.stand("x").pegs), (("a", "d"), ("a",)))


class ShapeTest(unittest.TestCase):
    def test_repr_and_length(self):
        company = example_company(("x", ("a", "b"), 2), ("y", (), 1))
        self.assertEqual((repr(company), len(company)), ("Company(2 walkers, 6 spent)", 2))
        company.leave("y")
        self.assertEqual((repr(company), len(company)), ("Company(1 walkers, 6 spent)", 1))

    def test_stands_and_order(self):
        company = example_company(("x", ("a", "b"), 2), ("b", ("d",), 1), ("a", (), 3))
        self.assertEqual(company.names, ("x", "b", "a"))
        self.assertEqual(company.stand("x"), example()(("a", "b")))
        self.assertEqual([company.load(name) for name in company.names], [2, 1, 3])

    def test_arguments_stay(self):
        company, board = Company(example()), example()
        way, wish = Way.read(board, "+a +b"), Wish(["c"], ["d"])
        company.enter("x")
        company.walk("x", way)
        company.obey("x", wish)
        company.gather(wish=wish)
        self.assertEqual((way, wish, board), (Way.read(example(), "+a +b"), Wish(["c"], ["d"]), example()))

    def test_two_companies_do_not_disturb_each_other(self):
        one, other = Company(example()), Company(example())
        one.enter("x")
        self.assertEqual((len(other), other.log()), (0, []))
        with one.held("a"):
            self.assertEqual(other.held_pegs, ())
        self.assertEqual([len(Company(board)) for board, _ in models()][:3], [0, 0, 0])

    def test_errors_are_those_of_the_module(self):
        company = example_company(("x", (), 1))
        with company.held("a"), self.assertRaises(Held):
            company.put_in("x", "a")
        with self.assertRaises(NoMatch):
            company.walk("x", Way(Board(())))


if __name__ == "__main__":
    unittest.main()
