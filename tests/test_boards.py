"""Boards: [13] to [16]."""

import itertools
import re
import unittest

from samples import BARS, COSTS, NEEDS, ODD, PEGS, Model, caught, example, grown, grown_models, models, numbers

from needpegs.boards import Board
from needpegs.stands import Stand

MANY = tuple("abcdefghijklm")


def is_row(value, kinds, of):
    return type(value) in kinds and all(type(item) is of for item in value)


def is_form(pegs, needs, bars, costs):
    rows = (tuple, list)
    pairs = [pair for row in (needs, bars) if type(row) in rows for pair in row]
    return (
        is_row(pegs, rows, str)
        and type(needs) in rows
        and type(bars) in rows
        and all(is_row(pair, (tuple,), str) and len(pair) == 2 for pair in pairs)
        and (costs is None or is_row(costs, rows, int))
    )


def reasons(pegs, needs, bars, costs):
    """All reasons of [13] against these values, in the order of the document, from its words alone."""
    if not is_form(pegs, needs, bars, costs):
        yield "form", 0
        return
    if len(pegs) > 12:
        yield "pegs", 0
    for at, peg in enumerate(pegs):
        if not re.fullmatch("[a-z]{1,6}", peg) or peg in pegs[:at]:
            yield "peg", at
    if costs is not None and len(costs) != len(pegs):
        yield "costs", 0
    for at, cost in enumerate(costs or ()):
        if cost not in range(1, 1001):
            yield "cost", at
    yield from pair_reasons("need", pegs, needs)
    for at in range(len(needs)):
        if Model(pegs, needs[:at + 1], ()).is_circular():
            yield "circle", at
    yield from pair_reasons("bar", pegs, bars)
    for at, peg in enumerate(pegs):
        if Model(pegs, needs, bars).is_dead(peg):
            yield "dead", at


def pair_reasons(word, pegs, pairs):
    for at, pair in enumerate(pairs):
        if len(set(pair) & set(pegs)) < 2:
            yield word, at


class MakingTest(unittest.TestCase):
    def check_all(self, word, at, cases):
        for pegs, more in cases:
            with self.subTest(pegs=pegs, **more):
                self.assertEqual(caught(Board, pegs, **more), ("NoBoard", word, at))

    def test_example_of_a_circle(self):
        self.assertEqual(caught(Board, ("a", "b"), needs=(("a", "b"), ("b", "a"))), ("NoBoard", "circle", 1))

    def test_form_of_pegs(self):
        for pegs in (None, True, 3, "ab", "", ("a", 1), ["a", None], (("a",),), ("a", ["b"])):
            self.check_all("form", 0, [(pegs, {})])

    def test_form_of_pairs(self):
        wrong = (None, 3, "ab", ("ab",), ("a", "b"), (["a", "b"],), (("a",),), (("a", "b", "a"),), (("a", 1),), ((),))
        for value in wrong:
            self.check_all("form", 0, [(("a", "b"), {"needs": value}), (("a", "b"), {"bars": value})])

    def test_form_of_costs(self):
        for value in (3, "11", "", False, (1, "1"), (1, True), [False, 1], (1, None), ((1,), 1)):
            self.check_all("form", 0, [(("a", "b"), {"costs": value})])

    def test_form_comes_before_everything(self):
        self.check_all("form", 0, [(MANY, {"costs": 1}), (("A", "A"), {"bars": 1}), (("a",), {"needs": 1, "costs": ()})])

    def test_too_many_pegs(self):
        self.assertEqual(Board.MOST, 12)
        self.assertEqual(len(Board(MANY[:12])), 12)
        self.check_all("pegs", 0, [(MANY, {}), (("A",) * 13, {"costs": ()})])

    def test_names(self):
        self.check_all("peg", 1, [
            (("a", "a"), {}), (("a", ""), {}), (("a", "B"), {}), (("a", "abcdefg"), {}), (("a", "b1"), {}),
            (("a", "b "), {}), (("a", "b\n"), {}), (("a", "b-c"), {"costs": ()}), (("a", "a", "B"), {}),
        ])
        self.check_all("peg", 0, [(("", ""), {"needs": (("a", "a"),)})])

    def test_costs(self):
        self.check_all("costs", 0, [
            (("a", "b"), {"costs": (1,)}), (("a", "b"), {"costs": (0, 0, 0)}), ((), {"costs": [1]}),
            (("a",), {"costs": ()}),
        ])
        self.check_all("cost", 1, [
            (("a", "b"), {"costs": (1, 0)}), (("a", "b"), {"costs": [1000, 1001]}), (("a", "b"), {"costs": (1, -1)}),
            (("a", "b"), {"costs": (1, 10 ** 30), "needs": (("a", "a"),)}),
        ])
        board = Board(("a", "b"), costs=[1, 1000])
        self.assertEqual((board.cost_of("a"), board.cost_of("b")), (1, 1000))

    def test_needs_before_circles(self):
        circle = (("a", "b"), ("b", "a"))
        for wrong in (("a", "a"), ("a", "x"), ("x", "a"), ("x", "x")):
            self.check_all("need", 2, [(("a", "b"), {"needs": circle + (wrong,)})])

    def test_circles_before_bars(self):
        chain = (("a", "b"), ("a", "b"), ("b", "c"), ("a", "c"), ("c", "a"), ("b", "a"))
        self.check_all("circle", 4, [(("a", "b", "c"), {"needs": chain, "bars": (("a", "a"),)})])

    def test_bars_before_dead_pegs(self):
        for wrong in (("a", "a"), ("a", "x"), ("x", "a")):
            self.check_all("bar", 1, [(("a", "b"), {"needs": (("b", "a"),), "bars": (("a", "b"), wrong)})])

    def test_dead_pegs(self):
        self.check_all("dead", 1, [
            (("a", "b"), {"needs": (("b", "a"),), "bars": (("a", "b"),)}),
            (("c", "b", "a"), {"needs": (("b", "a"),), "bars": (("b", "a"),)}),
        ])
        self.check_all("dead", 3, [
            (PEGS, {"needs": (("d", "b"), ("d", "c"), ("b", "a")), "bars": (("c", "a"),)}),
        ])

    def test_circle_is_the_least_index_on_all_small_boards(self):
        pegs = ("x", "y", "z")
        for needs in itertools.product(list(itertools.permutations(pegs, 2)), repeat=3):
            expected = None
            for at in range(len(needs)):
                below = Model(pegs, needs[:at + 1], ()).below
                if expected is None and any(p != q and q in below[p] and p in below[q] for p in pegs for q in pegs):
                    expected = ("NoBoard", "circle", at)
            self.assertEqual(caught(Board, pegs, needs=needs), expected)

    def check_reasons(self, pegs, needs, bars, costs):
        first = next(reasons(pegs, needs, bars, costs), None)
        expected = None if first is None else ("NoBoard", *first)
        self.assertEqual(caught(Board, pegs, needs=needs, bars=bars, costs=costs), expected)

    def test_values_of_any_kind_in_each_place(self):
        right = (("a", "b", "c"), (("b", "a"),), (("b", "c"),), (1, 2, 3))
        for at, odd in itertools.product(range(4), ODD):
            for kind in (tuple, list):
                values = [kind(value) for value in right]
                values[at] = odd
                self.check_reasons(*values)
                self.check_reasons(*[odd] * 4)
                for place in range(len(right[at])):
                    values[at] = kind(right[at][:place] + (odd,) + right[at][place + 1:])
                    self.check_reasons(*values)

    def test_a_value_of_any_kind_within_a_pair(self):
        for odd in ODD:
            for pair in (("a", odd), (odd, "a"), ["a", odd], ("a", "b", odd), (odd,)):
                self.check_reasons(("a", "b"), (("b", "a"), pair), (), None)
                self.check_reasons(["a", "b"], [], [pair], [1, 2])

    def test_the_first_of_several_reasons(self):
        faults = (
            (("a", "b", "c"), (("a", "b"), ("b", "a")), (("a", "a"),), (1, 1, 0)),
            (("a", "b", "A"), (("a", "x"), ("b", "b")), (("b", "x"), ("a", "b")), (1, 1)),
            (("a", "b", "c"), (("b", "a"), ("c", "b")), (("a", "c"), ("b", "a")), (1, 1001, -1)),
            (MANY, (("b", "a"), ("a", "b")), (("x", "a"),), None),
            (("a", "b", "c"), (("b", "a"),), (("a", "b"),), "form"),
        )
        for values in itertools.product(*zip(*faults)):
            self.check_reasons(*values)

    def test_disordered_faults(self):
        draw = numbers(13)
        for seed in range(600):
            pegs, needs, bars, costs = map(list, grown(next(draw) % 6, seed))
            names = pegs + ["x", ""] if next(draw) % 3 == 0 else pegs
            for row, many in ((needs, 2), (bars, 2)):
                for _ in range(next(draw) % 3 if names else 0):
                    row.insert(next(draw) % (len(row) + 1), tuple(names[next(draw) % len(names)] for _ in range(many)))
            if next(draw) % 8 == 0 and pegs:
                pegs[next(draw) % len(pegs)] = ("a", "B", "abcdefg", "")[next(draw) % 4]
            if next(draw) % 8 == 0 and costs:
                costs[next(draw) % len(costs)] = (0, 1001, 1000, True)[next(draw) % 4]
            self.check_reasons(tuple(pegs), needs, bars, costs)

    def test_circles_of_every_length(self):
        for many in range(2, 13):
            pegs = MANY[:many]
            circle = list(zip(pegs, pegs[1:] + pegs[:1]))
            self.assertIsNone(caught(Board, pegs, needs=circle[:-1]))
            for turned in range(many):
                needs = circle[turned:] + circle[:turned]
                self.assertEqual(caught(Board, pegs, needs=needs + needs), ("NoBoard", "circle", many - 1))

    def test_forty_repeated_needs_and_bars(self):
        needs, bars = [("c", "b"), ("b", "a")] * 20, [("d", "a"), ("a", "d"), ("d", "c"), ("b", "d")] * 10
        board = Board(list("dcba"), needs=needs, bars=bars)
        self.assertEqual(board, Board(("d", "c", "b", "a"), needs=(("c", "b"), ("b", "a")), bars=(("a", "d"),)))
        for pair, word in ((("a", "c"), "circle"), (("a", "x"), "need")):
            self.assertEqual(caught(Board, list("dcba"), needs=needs[:-1] + [pair]), ("NoBoard", word, 39))
        for pair, word, at in ((("a", "a"), "bar", 39), (("a", "c"), "dead", 1)):
            found = caught(Board, list("dcba"), needs=needs, bars=bars[:-1] + [pair])
            self.assertEqual(found, ("NoBoard", word, at))

    def test_bars_below_one_peg_of_a_chain(self):
        chain = tuple(zip(MANY[1:12], MANY))
        for one, other in itertools.combinations(range(12), 2):
            found = caught(Board, MANY[:12], needs=chain, bars=((MANY[one], MANY[other]),))
            self.assertEqual(found, ("NoBoard", "dead", other))
            found = caught(Board, MANY[11::-1], needs=chain, bars=((MANY[one], MANY[other]),))
            self.assertEqual(found, ("NoBoard", "dead", 0))

    def test_arguments_stay_and_later_changes_have_no_effect(self):
        pegs, needs, bars, costs = list(PEGS), list(NEEDS), list(BARS), list(COSTS)
        board = Board(pegs, needs=needs, bars=bars, costs=costs)
        self.assertEqual((pegs, needs, bars, costs), (list(PEGS), list(NEEDS), list(BARS), list(COSTS)))
        for row in (pegs, needs, bars, costs):
            row.clear()
        self.assertEqual(board, example())
        self.assertEqual(board.pegs, PEGS)

    def test_keywords(self):
        self.assertEqual(Board(pegs=PEGS, costs=COSTS, bars=BARS, needs=NEEDS), example())
        with self.assertRaises(TypeError):
            Board(PEGS, NEEDS)


class AskingTest(unittest.TestCase):
    def test_example(self):
        board = example()
        found = (board.below("c"), board.above("a"), board.needs("a", "c"), board.clash("b", "c"))
        self.assertEqual(found, (("a", "c"), ("a", "b", "c"), False, True))

    def test_pegs_and_length(self):
        board = example()
        self.assertEqual((board.pegs, len(board), len(Board(()))), (PEGS, 4, 0))
        self.assertEqual([peg in board for peg in ("a", "d", "e", "", "ab")], [True, True, False, False, False])

    def test_relations_of_many_boards(self):
        for board, model in itertools.chain(models(), grown_models(9, 6)):
            for one in model.pegs:
                self.assertEqual(board.below(one), model.ordered(model.below[one]))
                above = [peg for peg in model.pegs if one in model.below[peg]]
                self.assertEqual(board.above(one), tuple(above))
                for other in model.pegs:
                    self.assertIs(board.needs(one, other), model.needs(one, other))
                    self.assertIs(board.clash(one, other), model.clash(one, other))

    def test_no_peg(self):
        board = example()
        for ask in (board.cost_of, board.below, board.above):
            self.assertEqual(caught(ask, "e"), ("NoPeg", "e"))
            self.assertEqual(caught(ask, peg=""), ("NoPeg", ""))
        for ask in (board.needs, board.clash):
            self.assertEqual(caught(ask, "x", "y"), ("NoPeg", "x"))
            self.assertEqual(caught(ask, "a", "y"), ("NoPeg", "y"))
            self.assertEqual(caught(ask, other="a", peg="y"), ("NoPeg", "y"))

    def test_costs(self):
        self.assertEqual([example().cost_of(peg) for peg in PEGS], list(COSTS))
        self.assertEqual([Board(PEGS).cost_of(peg) for peg in PEGS], [1, 1, 1, 1])

    def test_names(self):
        for text in ("a", "z", "abcdef", "zzzzzz"):
            self.assertIs(Board.is_name(text), True)
        for text in ("", "A", "abcdefg", "a b", " a", "a\n", "1", "a1", "+a", "_"):
            self.assertIs(Board.is_name(text=text), False)
        self.assertIs(example().is_name("x"), True)

    def test_empty(self):
        self.assertIsInstance(example().empty, Stand)
        self.assertEqual(example().empty.pegs, ())
        self.assertEqual(Board(()).empty.pegs, ())


class EqualityTest(unittest.TestCase):
    def test_equal_boards(self):
        self.assertTrue(example() == example())
        self.assertFalse(example() != example())

    def test_what_follows_makes_no_difference(self):
        one = Board(("a", "b", "c", "d"), needs=(("b", "a"), ("c", "b")), bars=(("a", "d"),))
        other = Board(
            ["a", "b", "c", "d"],
            needs=[("c", "b"), ("b", "a"), ("c", "a"), ("b", "a")],
            bars=[("d", "c"), ("d", "a"), ("a", "d")],
            costs=[1, 1, 1, 1],
        )
        self.assertTrue(one == other)

    def test_boards_made_again_from_what_follows(self):
        for board, model in grown_models(7, 6):
            needs = [pair for pair in itertools.permutations(model.pegs, 2) if model.needs(*pair)]
            bars = [pair for pair in itertools.permutations(model.pegs, 2) if model.clash(*pair)]
            costs = [board.cost_of(peg) for peg in model.pegs]
            again = Board(model.pegs, needs=needs[::-1], bars=bars[::-1], costs=costs)
            self.assertTrue(board == again)
            self.assertFalse(board != again)
            for less in (Board(model.pegs, needs=needs[1:], bars=bars, costs=costs),
                         Board(model.pegs, needs=needs, bars=bars[2:], costs=costs)):
                same = all(
                    board.needs(*pair) == less.needs(*pair) and board.clash(*pair) == less.clash(*pair)
                    for pair in itertools.permutations(model.pegs, 2)
                )
                self.assertIs(board == less, same)
                self.assertIs(board != less, not same)

    def test_different_boards(self):
        others = (
            Board(("b", "a", "c", "d"), needs=NEEDS, bars=BARS, costs=(2, 1, 3, 1)),
            Board(("a", "c", "b", "d"), needs=NEEDS, bars=BARS, costs=(1, 3, 2, 1)),
            Board(("a", "b", "c", "e"), needs=NEEDS, bars=BARS, costs=COSTS),
            Board(PEGS[:3], needs=NEEDS, bars=BARS, costs=COSTS[:3]),
            Board(PEGS, needs=NEEDS, bars=BARS),
            Board(PEGS, needs=NEEDS, bars=BARS, costs=(1, 2, 3, 2)),
            Board(PEGS, needs=NEEDS[:1], bars=BARS, costs=COSTS),
            Board(PEGS, needs=NEEDS + (("d", "a"),), bars=BARS, costs=COSTS),
            Board(PEGS, needs=NEEDS, costs=COSTS),
            Board(PEGS, needs=NEEDS, bars=BARS + (("c", "d"),), costs=COSTS),
            Board(()),
        )
        for other in others:
            self.assertFalse(example() == other)
            self.assertTrue(example() != other)

    def test_a_board_equals_nothing_else(self):
        for other in (None, True, 4, "Board(4 pegs)", PEGS, list(PEGS), example().empty):
            self.assertFalse(example() == other)
            self.assertTrue(example() != other)

    def test_repr(self):
        self.assertEqual(repr(example()), "Board(4 pegs)")
        self.assertEqual(repr(Board(["a"])), "Board(1 pegs)")


class StandTest(unittest.TestCase):
    def ways_of_making(self, board):
        return (board, lambda pegs: board.stand(*pegs), lambda pegs: Stand(board, pegs))

    def test_examples(self):
        board = example()
        self.assertEqual(caught(board, ("b", "c")), ("Missing", "b", "a"))
        self.assertEqual(board.stand("c", "a").pegs, ("a", "c"))

    def test_all_subsets_of_small_boards(self):
        for board, model in itertools.chain(models(), grown_models(5, 4)):
            for pegs in model.subsets():
                for make in self.ways_of_making(board):
                    self.check_subset(make, model, pegs)

    def check_subset(self, make, model, pegs):
        expected = None
        for one, other in itertools.product(pegs, model.pegs):
            if expected is None and model.needs(one, other) and other not in pegs:
                expected = ("Missing", one, other)
        for one, other in itertools.combinations(pegs, 2):
            if expected is None and model.clash(one, other):
                expected = ("Barred", one, other)
        given = pegs[::-1] + pegs[:1]
        self.assertEqual(caught(make, given), expected)
        if expected is None:
            self.assertEqual(make(given).pegs, pegs)
            self.assertEqual(make(list(given)).pegs, pegs)

    def test_no_peg_comes_first(self):
        for make in self.ways_of_making(example()):
            self.assertEqual(caught(make, ("b", "x", "c", "y")), ("NoPeg", "x"))

    def test_keywords_and_later_changes(self):
        pegs = ["a", "b"]
        stand = example()(pegs=pegs)
        pegs.append("d")
        self.assertEqual(stand.pegs, ("a", "b"))
        self.assertEqual(Stand(pegs=("a",), board=example()).pegs, ("a",))
        self.assertEqual(example().stand(), example().empty)


if __name__ == "__main__":
    unittest.main()
