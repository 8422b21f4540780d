"""Boards from boards, wishes and stands: [41] and [42]."""

import itertools
import unittest

from samples import NEEDS, PEGS, TWELVE, Model, caught, example, example_again, grown, grown_models, models, strange_boards
from test_wishes import meeting, some_sides, triples, unmet, wished

from needpegs.boards import Board
from needpegs.derived import narrowed, seen, seen_from, widened
from needpegs.texts import show_board
from needpegs.wishes import Wish


def listed(board):
    return [stand.pegs for stand in board.stands()]


def costs_of(board):
    return [(peg, board.cost_of(peg)) for peg in board.pegs]


class NarrowedTest(unittest.TestCase):
    def test_a_search_through_all_stands(self):
        for board, model, inside, outside in wished():
            wish, right = Wish(inside, outside), meeting(model, inside, outside)
            if not right:
                self.assertIn(unmet(narrowed, board, wish), triples(model, inside, outside))
                continue
            less = narrowed(board, wish)
            always = {peg for peg in model.pegs if all(peg in pegs for pegs in right)}
            never = {peg for peg in model.pegs if not any(peg in pegs for pegs in right)}
            left = [peg for peg in model.pegs if peg not in always | never]
            self.assertIsInstance(less, Board)
            self.assertEqual(costs_of(less), [(peg, board.cost_of(peg)) for peg in left])
            self.assertEqual(listed(less), [tuple(peg for peg in pegs if peg not in always) for pegs in right])
            for stand, pegs in zip(less.stands(), right):
                self.assertEqual(widened(board, wish, stand), board(pegs))

    def test_example(self):
        less = narrowed(example(), Wish(("a",)))
        self.assertEqual(less, Board(("b", "c", "d"), bars=(("b", "c"),), costs=(2, 3, 1)))
        self.assertEqual(narrowed(example(), Wish(("b",))), Board(("d",)))
        self.assertEqual(widened(example(), Wish(("b",)), Board(("d",)).empty).pegs, ("a", "b"))
        self.assertEqual(widened(example(), Wish(("b",)), Board(("d",))(("d",))).pegs, ("a", "b", "d"))

    def test_the_empty_wish(self):
        for board, _ in models():
            self.assertEqual(narrowed(board, Wish()), board)
            for stand in board.stands():
                self.assertEqual(widened(board, Wish(), stand), stand)

    def test_nothing_left_open(self):
        for board, model in grown_models(5, 2):
            for stand in board.stands():
                wish = Wish(stand.pegs, [peg for peg in model.pegs if peg not in stand])
                self.assertEqual(narrowed(board, wish), Board(()))
                self.assertEqual(widened(board, wish, Board(()).empty), stand)

    def test_needs_through_pegs_that_are_left_out(self):
        # b is in at every stand that meets the wish, so c needs only what of its needs is left open.
        board = Board(("a", "b", "c", "d", "e"), needs=(("c", "b"), ("b", "a"), ("d", "c"), ("e", "d")))
        less = narrowed(board, Wish(("b",)))
        self.assertEqual(less, Board(("c", "d", "e"), needs=(("d", "c"), ("e", "d"))))
        self.assertEqual(narrowed(board, Wish((), ("e",))), Board(PEGS, needs=(("c", "b"), ("b", "a"), ("d", "c"))))

    def test_errors_in_their_order(self):
        board, strange = example(), Board(("x",)).empty
        cases = ((Wish(("b", "c", "z"), ("q",)), ("NoPeg", "z")), (Wish(("d",), ("d", "e")), ("NoPeg", "e")),
                 (Wish(("d",), ("d",)), ("Unmet", "needs", "d", "d")))
        for wish, error in cases:
            self.assertEqual(caught(narrowed, board, wish), error)
            for stand in (board.empty, strange):
                self.assertEqual(caught(widened, board, wish, stand), error)
        for strange_stand in [strange, board.empty] + [other.empty for other in strange_boards()]:
            self.assertEqual(caught(widened, board, Wish(("a",)), strange_stand), ("NoMatch", "board"))
        self.assertEqual(caught(widened, board, Wish(("b",)), Board(("d",), costs=(2,)).empty), ("NoMatch", "board"))

    def test_keywords(self):
        board, wish = example(), Wish(("b",))
        self.assertEqual(narrowed(wish=wish, board=board), narrowed(board, wish))
        self.assertEqual(widened(stand=Board(("d",)).empty, wish=wish, board=board).pegs, ("a", "b"))
        self.assertEqual((board, wish), (example(), Wish(["b"])))


class SeenTest(unittest.TestCase):
    def test_example(self):
        text = "peg a 1\npeg b 2\npeg c 3\npeg d 1\nneeds a b\nneeds c b\nbars a c"
        self.assertEqual(show_board(seen_from(example()(("a", "b")))), text)

    def test_a_search_through_all_stands(self):
        for board, model in itertools.chain(models(), grown_models(6, 6)):
            for origin in board.stands():
                other = seen_from(origin)
                self.assertIsInstance(other, Board)
                self.assertEqual(costs_of(other), costs_of(board))
                expected = {model.ordered(set(pegs) ^ set(origin.pegs)) for pegs in model.stands()}
                self.assertEqual(set(listed(other)), expected)
                self.assertEqual(other.count_stands(), len(expected))
                self.check_stands(board, model, origin, other)

    def check_stands(self, board, model, origin, other):
        for stand in board.stands():
            there = seen(stand, origin)
            self.assertEqual((there.board, there.pegs), (other, stand ^ origin))
        self.assertEqual(seen(origin, origin), other.empty)
        self.assertEqual(seen_from(seen(board.empty, origin)), board)

    def test_seen_from_the_empty_stand(self):
        for board, _ in itertools.chain(models(), grown_models(8, 3)):
            self.assertEqual(seen_from(board.empty), board)
            for stand in board.stands():
                self.assertEqual(seen(stand, board.empty), stand)

    def test_seen_twice(self):
        for board, _ in itertools.chain(models(), grown_models(5, 3)):
            for one, other in itertools.product(board.stands(), repeat=2):
                self.assertEqual(seen_from(seen(other, one)), seen_from(other))

    def test_twelve_pegs(self):
        board = Board(TWELVE, needs=tuple(zip(TWELVE[1:], TWELVE)))
        turned = seen_from(board(TWELVE))
        self.assertEqual(turned, Board(TWELVE, needs=tuple(zip(TWELVE, TWELVE[1:]))))
        middle = seen_from(board(TWELVE[:6]))
        needs = tuple(zip(TWELVE[:5], TWELVE[1:6])) + tuple(zip(TWELVE[7:], TWELVE[6:]))
        self.assertEqual(middle, Board(TWELVE, needs=needs, bars=(("f", "g"),)))

    def test_large_boards(self):
        for seed in range(4):
            pegs, needs, bars, costs = grown(9, seed)
            board, model = Board(pegs, needs=needs, bars=bars, costs=costs), Model(pegs, needs, bars)
            stands = list(board.stands())
            for origin in (stands[-1], stands[len(stands) // 2]):
                expected = {model.ordered(set(pegs) ^ set(origin.pegs)) for pegs in model.stands()}
                self.assertEqual(set(listed(seen_from(origin))), expected)

    def test_no_match(self):
        for strange in strange_boards():
            self.assertEqual(caught(seen, example().empty, strange.empty), ("NoMatch", "board"))
            self.assertEqual(caught(seen, strange.empty, example().empty), ("NoMatch", "board"))
        stand = seen(example_again()(("d",)), example()(("a",)))
        self.assertEqual(stand, seen_from(example()(("a",)))(("a", "d")))

    def test_keywords_and_arguments(self):
        stand, origin = example()(("a", "b")), example()(("a",))
        self.assertEqual(seen(origin=origin, stand=stand), seen(stand, origin))
        self.assertEqual(seen_from(origin=origin), seen_from(origin))
        self.assertEqual((stand.pegs, origin.pegs, stand.board), (("a", "b"), ("a",), example()))
        self.assertEqual(NEEDS, (("b", "a"), ("c", "a")))


class SidesTest(unittest.TestCase):
    def test_many_narrowed_boards_of_a_large_board(self):
        for seed in range(3):
            pegs, needs, bars, costs = grown(9, seed)
            board, model = Board(pegs, needs=needs, bars=bars, costs=costs), Model(pegs, needs, bars)
            for inside, outside in some_sides(pegs, seed, 30):
                right = meeting(model, inside[:2], outside[:2])
                if right:
                    wish = Wish(inside[:2], outside[:2])
                    less = narrowed(board, wish)
                    self.assertEqual([widened(board, wish, stand).pegs for stand in less.stands()], right)


if __name__ == "__main__":
    unittest.main()
