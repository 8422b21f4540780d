"""Wishes: [32] to [36]."""

import itertools
import types
import unittest

from samples import (
    ODD, PEGS, TWELVE, Model, caught, example, example_again, first_error, grown, grown_models, half_read, models,
    numbers, strange_boards,
)

from needpegs.boards import Board
from needpegs.errors import Unmet
from needpegs.wishes import Wish, around, gap


def sides(pegs):
    """All pairs of some pegs inside and some pegs outside, also with the same peg on both sides."""
    some = [row for many in range(len(pegs) + 1) for row in itertools.combinations(pegs, many)]
    return list(itertools.product(some, repeat=2))


def some_sides(pegs, seed, many):
    """Disordered sides, most of them short."""
    draw = numbers(seed)
    for _ in range(many):
        yield tuple(tuple(peg for peg in pegs if next(draw) % 4 == 0) for _ in range(2))


def wished():
    """Boards with their models, each with pairs of sides of a wish."""
    for board, model in models():
        for pair in sides(model.pegs) if len(model.pegs) < 4 else some_sides(model.pegs, 1, 60):
            yield board, model, *pair
    for seed, (board, model) in enumerate(grown_models(7, 4)):
        for pair in some_sides(model.pegs, seed, 30):
            yield board, model, *pair


def meeting(model, inside, outside):
    return [pegs for pegs in model.stands() if model.meets(pegs, inside, outside)]


def triples(model, inside, outside):
    """All right answers of obstacle, from the words of [33]."""
    found = {("needs", p, q) for p in inside for q in outside if p == q or model.needs(p, q)}
    return found | {("bars", p, q) for p in inside for q in inside if model.clash(p, q)}


def distance(board, one, other):
    return sum(board.cost_of(peg) for peg in set(one) ^ set(other))


def unmet(call, *values):
    """The values of Unmet, which the call must raise."""
    found = caught(call, *values)
    return found[1:] if found is not None and found[0] == "Unmet" else found


class ShapeTest(unittest.TestCase):
    def test_names(self):
        for kind in (tuple, list):
            wish = Wish(kind(("d", "a", "d", "ab")), kind(("c", "b", "c", "c")))
            self.assertEqual((wish.inside, wish.outside), (("a", "ab", "d"), ("b", "c")))
        self.assertEqual((Wish().inside, Wish().outside), ((), ()))
        self.assertEqual((Wish(["b"]).inside, Wish(["b"]).outside), (("b",), ()))
        self.assertEqual((Wish(outside=("b",)).inside, Wish(outside=("b",)).outside), ((), ("b",)))
        self.assertEqual(Wish(outside=("x",), inside=("y",)), Wish(("y",), ("x",)))
        self.assertEqual((Wish(("a",), ("a",)).inside, Wish(("a",), ("a",)).outside), (("a",), ("a",)))

    def test_later_changes_have_no_effect(self):
        inside, outside = ["b", "a"], ["d"]
        wish = Wish(inside, outside)
        self.assertEqual((inside, outside), (["b", "a"], ["d"]))
        inside.append("c")
        outside.clear()
        self.assertEqual((wish.inside, wish.outside), (("a", "b"), ("d",)))

    def test_both_wishes(self):
        one, other = Wish(("b", "a"), ("d",)), Wish(["c", "b"], ["a", "d"])
        self.assertEqual(one & other, Wish(("a", "b", "c"), ("a", "d")))
        self.assertEqual((one & Wish(), Wish() & one, one & one), (one, one, one))
        self.assertEqual((repr(one), repr(other)), ("Wish(+a +b -d)", "Wish(+b +c -a -d)"))

    def test_truth(self):
        for inside, outside in sides(("a", "b")):
            self.assertIs(bool(Wish(inside, outside)), bool(inside or outside))

    def test_equality(self):
        pairs = sides(("a", "b"))
        for one, other in itertools.product(pairs, repeat=2):
            self.assertIs(Wish(*one) == Wish(*other), one == other)
            self.assertIs(Wish(*one) != Wish(*other), one != other)
        self.assertTrue(Wish(("b", "a", "a")) == Wish(["a", "b"]))

    def test_a_wish_equals_nothing_else(self):
        for wish in (Wish(), Wish(("a",)), Wish(("a",), ("b",))):
            for other in ODD + ((("a",), ("b",)), "Wish(+a)", repr(wish), example(), example().empty, (wish,)):
                self.assertIs(wish == other, False)
                self.assertIs(wish != other, True)

    def test_repr(self):
        self.assertEqual(repr(Wish()), "Wish()")
        self.assertEqual(repr(Wish(("b", "a"), ("d", "c"))), "Wish(+a +b -c -d)")
        self.assertEqual(repr(Wish((), ("d", "c"))), "Wish(-c -d)")
        self.assertEqual(repr(Wish(("abcdef", "b"))), "Wish(+abcdef +b)")
        self.assertEqual(repr(Wish(("a",), ("a",))), "Wish(+a -a)")


class MeetingTest(unittest.TestCase):
    def test_every_stand(self):
        for board, model, inside, outside in wished():
            wish = Wish(inside, outside)
            for pegs in model.stands():
                self.assertIs(board(pegs) in wish, model.meets(pegs, inside, outside))

    def test_obstacle(self):
        for board, model, inside, outside in wished():
            right = triples(model, inside, outside)
            found = Wish(inside, outside).obstacle(board)
            self.assertIs(found is None, bool(meeting(model, inside, outside)))
            self.assertIs(found is None, not right)
            if right:
                self.assertIn(found, right)

    def test_obstacle_holds_for_every_triple(self):
        words = ("needs", "bars", "", "need", "Bars")
        for board, model in itertools.chain(models(), grown_models(4, 3)):
            names = model.pegs + ("q", "")
            for inside, outside in some_sides(model.pegs, 2, 25):
                right = triples(model, inside, outside)
                for triple in itertools.product(words, names, names):
                    self.assertIs(Wish(inside, outside).obstacle_holds(board, triple), triple in right)

    def test_obstacle_holds_for_values_of_any_kind(self):
        wish = Wish(("b", "c"), ("a",))
        right = [("needs", "b", "a"), ("needs", "c", "a"), ("bars", "b", "c"), ("bars", "c", "b")]
        for triple in right:
            self.assertIs(wish.obstacle_holds(example(), triple), True)
            for odd in ODD:
                self.assertIs(wish.obstacle_holds(example(), odd), False)
                self.assertIs(wish.obstacle_holds(example(), triple + (odd,)), False)
                self.assertIs(wish.obstacle_holds(example(), (odd,) + triple), False)
                for at in range(3):
                    value = triple[:at] + (odd,) + triple[at + 1:]
                    self.assertIs(wish.obstacle_holds(example(), value), value in right)
            for value in (list(triple), (triple,), triple[:2], triple[::-1], " ".join(triple)):
                self.assertIs(wish.obstacle_holds(example(), value), False)

    def test_a_name_on_both_sides(self):
        wish = Wish(("d",), ("d",))
        self.assertEqual(wish.obstacle(example()), ("needs", "d", "d"))
        self.assertIs(wish.obstacle_holds(example(), ("needs", "d", "d")), True)
        self.assertIs(wish.obstacle_holds(example(), ("bars", "d", "d")), False)
        self.assertIs(Wish(("d",)).obstacle_holds(example(), ("bars", "d", "d")), False)
        self.assertIs(Wish(("d",)).obstacle_holds(example(), ("needs", "d", "d")), False)


class NearestTest(unittest.TestCase):
    def test_examples(self):
        self.assertEqual(Wish(("c",), ("d",))(example()(("a", "b", "d"))).pegs, ("a", "c"))
        self.assertEqual(Wish(("b",)).forced(example()), (("a", "b"), ("c",)))
        with self.assertRaises(Unmet):
            Wish(("b", "c"))(example().empty)

    def test_a_search_through_all_stands(self):
        for board, model, inside, outside in wished():
            wish = Wish(inside, outside)
            right = meeting(model, inside, outside)
            for pegs in model.stands():
                if not right:
                    self.assertIn(unmet(wish, board(pegs)), triples(model, inside, outside))
                    continue
                near = min(distance(board, pegs, other) for other in right)
                nearest = [other for other in right if distance(board, pegs, other) == near]
                self.assertEqual([wish(board(pegs)).pegs], nearest)

    def test_forced_and_stands(self):
        for board, model, inside, outside in wished():
            wish = Wish(inside, outside)
            right = meeting(model, inside, outside)
            if right:
                self.assertEqual([stand.pegs for stand in wish.stands(board)], right)
                inner = tuple(peg for peg in model.pegs if all(peg in pegs for pegs in right))
                outer = tuple(peg for peg in model.pegs if not any(peg in pegs for pegs in right))
                self.assertEqual(wish.forced(board), (inner, outer))
            else:
                found = triples(model, inside, outside)
                self.assertIn(unmet(wish.forced, board), found)
                self.assertIn(first_error(lambda: wish.stands(board))[1:], found)

    def test_the_empty_wish(self):
        for board, model in models():
            self.assertEqual(list(Wish().stands(board)), list(board.stands()))
            self.assertEqual((Wish().forced(board), Wish().obstacle(board)), (((), ()), None))
            for stand in board.stands():
                self.assertEqual(Wish()(stand), stand)
                self.assertIs(stand in Wish(), True)
        self.assertEqual(list(Wish().stands(Board(()))), [Board(()).empty])

    def test_twelve_names_on_a_side(self):
        chain = Board(TWELVE, needs=tuple(zip(TWELVE[1:], TWELVE)))
        self.assertEqual(Wish(TWELVE)(chain.empty), chain(TWELVE))
        self.assertEqual(Wish((), TWELVE)(chain(TWELVE)), chain.empty)
        self.assertEqual(Wish(("f",))(chain.empty).pegs, TWELVE[:6])
        self.assertEqual(Wish((), ("f",))(chain(TWELVE)).pegs, TWELVE[:5])
        self.assertEqual(Wish(TWELVE, TWELVE).obstacle_holds(chain, ("needs", "l", "a")), True)
        self.assertEqual(Wish(("l",), ("a",)).obstacle(chain), ("needs", "l", "a"))

    def test_a_generator_of_stands(self):
        board, wish = example(), Wish(("a",), ("c",))
        self.assertIsInstance(wish.stands(board), types.GeneratorType)
        self.assertEqual(len(half_read(self, lambda: wish.stands(board))), 4)

    def test_an_equal_board_made_anew(self):
        wish = Wish(("c",), ("d",))
        self.assertEqual(wish(example_again()(("a", "b", "d"))), example()(("a", "c")))
        self.assertEqual(list(wish.stands(example_again())), list(wish.stands(example())))


class NoPegTest(unittest.TestCase):
    # The first name that is no peg, first inside and then outside, comes before everything else.
    CASES = (
        (("q",), (), "q"), ((), ("q",), "q"), (("z", "q", "a"), ("e",), "q"), (("b", "c"), ("z", "x"), "x"),
        (("b", "c"), ("b", "zz"), "zz"), (("a", "A"), (), "A"), (("a",), ("a", "", "b"), ""), (("y", "x"), ("a",), "x"),
    )

    def test_each_method(self):
        board = example()
        for inside, outside, peg in self.CASES:
            wish = Wish(inside, outside)
            calls = (
                lambda: board.empty in wish, lambda: board(("a", "b")) in wish, lambda: wish.obstacle(board),
                lambda: wish.obstacle_holds(board, None), lambda: wish.obstacle_holds(board, ("needs", "b", "b")),
                lambda: wish(board.empty), lambda: wish.forced(board), lambda: list(wish.stands(board)),
                lambda: gap(board, wish, Wish(("b", "c"))), lambda: gap(board, Wish(("b", "c")), wish),
            )
            for call in calls:
                self.assertEqual(caught(call), ("NoPeg", peg))
            self.assertEqual(first_error(lambda: wish.stands(board)), ("NoPeg", peg))

    def test_board_without_pegs(self):
        wish = Wish(("b",), ("a",))
        for call in (wish.obstacle, wish.forced, lambda board: wish(board.empty), lambda board: board.empty in wish):
            self.assertEqual(caught(call, Board(())), ("NoPeg", "b"))


class GapTest(unittest.TestCase):
    def test_all_pairs(self):
        for seed, (board, model) in enumerate(itertools.chain(models(), grown_models(6, 4))):
            rows = list(some_sides(model.pegs, seed, 8))
            for one, other in itertools.product(rows, repeat=2):
                self.check(board, model, one, other)

    def check(self, board, model, one, other):
        rights = [meeting(model, *pair) for pair in (one, other)]
        if not all(rights):
            wrong = other if rights[0] else one
            self.assertIn(unmet(gap, board, Wish(*one), Wish(*other)), triples(model, *wrong))
            return
        found = gap(board, Wish(*one), Wish(*other))
        self.assertIsInstance(found, tuple)
        s, t = found
        self.assertTrue(s.pegs in rights[0] and t.pegs in rights[1])
        self.assertEqual(s.distance(t), min(distance(board, *pair) for pair in itertools.product(*rights)))
        self.assertEqual(gap(board, Wish(*one), Wish(*other)), found)

    def test_errors_in_order(self):
        board, fine, unmet_one, unmet_two = example(), Wish(("a",)), Wish(("b", "c")), Wish(("d",), ("d",))
        no_one, no_two = Wish(("x", "b", "c")), Wish(("b", "c"), ("y",))
        for one, other, expected in (
            (no_one, no_two, ("NoPeg", "x")), (no_two, no_one, ("NoPeg", "y")), (no_one, unmet_two, ("NoPeg", "x")),
            (unmet_one, no_two, ("NoPeg", "y")), (fine, no_two, ("NoPeg", "y")), (no_two, fine, ("NoPeg", "y")),
            (unmet_two, fine, ("Unmet", "needs", "d", "d")), (fine, unmet_two, ("Unmet", "needs", "d", "d")),
        ):
            self.assertEqual(caught(gap, board, one, other), expected)
        self.assertIn(unmet(gap, board, unmet_one, unmet_two), (("bars", "b", "c"), ("bars", "c", "b")))
        self.assertEqual(unmet(gap, board, unmet_two, unmet_one), ("needs", "d", "d"))

    def test_keywords(self):
        board = example()
        one, other = Wish(("b",)), Wish(("c",))
        self.assertEqual(gap(other=other, one=one, board=board), gap(board, one, other))
        self.assertEqual([stand.pegs for stand in gap(board, one, other)], [("a", "b"), ("a", "c")])


class AroundTest(unittest.TestCase):
    def test_one_and_several_stands(self):
        for board, model in itertools.chain(models(), grown_models(5, 2)):
            stands = list(board.stands())
            for many in (1, 2, 3):
                for some in itertools.product(stands[:12], repeat=many):
                    inside = tuple(sorted(peg for peg in model.pegs if all(peg in stand.pegs for stand in some)))
                    outside = tuple(sorted(peg for peg in model.pegs if all(peg not in stand.pegs for stand in some)))
                    self.assertEqual(around(some), Wish(inside, outside))
            self.assertEqual(around(stands[:8]), around(list(stands[:8])[::-1]))

    def test_example(self):
        board = example()
        stands = [board(("a", "b")), board(("a", "c"))]
        self.assertEqual(repr(around(stands)), "Wish(+a -d)")
        self.assertEqual(repr(around(stands=tuple(stands[:1]))), "Wish(+a +b -c -d)")
        self.assertEqual(len(stands), 2)

    def test_alphabetical_order(self):
        board = Board(("d", "a", "c", "b"))
        self.assertEqual(around([board(("c", "a"))]).inside, ("a", "c"))
        self.assertEqual(around([board(("c", "a"))]).outside, ("b", "d"))

    def test_none(self):
        self.assertEqual(caught(around, ()), ("NoMatch", "none"))
        self.assertEqual(caught(around, []), ("NoMatch", "none"))

    def test_boards_that_are_not_equal(self):
        for strange in strange_boards():
            for many in (2, 3, 8):
                for at in range(many):
                    stands = [example().empty] * many
                    stands[at] = strange.empty
                    self.assertEqual(caught(around, tuple(stands)), ("NoMatch", "board"))
        self.assertEqual(around((example().empty, example_again()(("a",)))), Wish((), ("b", "c", "d")))


class KeywordTest(unittest.TestCase):
    def test_methods(self):
        board, wish = example(), Wish(("b",))
        self.assertEqual(wish.obstacle(board=board), None)
        self.assertIs(Wish(("b", "c")).obstacle_holds(value=("bars", "b", "c"), board=board), True)
        self.assertEqual(wish(stand=board.empty), board(("a", "b")))
        self.assertEqual(wish.forced(board=board), (("a", "b"), ("c",)))
        self.assertEqual(list(wish.stands(board=board)), [board(("a", "b")), board(("a", "b", "d"))])

    def test_arguments_stay(self):
        board, wish = example(), Wish(("b",), ("d",))
        stand = board(("a", "c", "d"))
        value = ["needs", ["b"]]
        wish(stand), wish.forced(board), list(wish.stands(board)), wish.obstacle_holds(board, value), stand in wish
        self.assertEqual((board, stand, wish, value), (example(), example()(PEGS[:1] + PEGS[2:]), Wish(["b"], ["d"]),
                                                       ["needs", ["b"]]))

    def test_a_grown_board_in_any_order(self):
        pegs, needs, bars, costs = grown(8, 3)
        board, model = Board(pegs, needs=needs, bars=bars, costs=costs), Model(pegs, needs, bars)
        for inside, outside in some_sides(pegs, 9, 60):
            expected = meeting(model, inside, outside)
            found = caught(lambda: list(Wish(inside[::-1], outside[::-1]).stands(board)))
            self.assertIs(found is None, bool(expected))


if __name__ == "__main__":
    unittest.main()
