"""Boards from boards: [40]."""

import itertools
import operator
import unittest

from samples import COSTS, NEEDS, PEGS, TWELVE, Model, caught, example, grown, grown_models, models

from needpegs.boards import Board


def cost(peg):
    """One cost for each name, so that boards made at different places fit together."""
    return ord(peg) % 7 + 1


def made(pegs, needs, bars):
    return Board(pegs, needs=needs, bars=bars, costs=[cost(peg) for peg in pegs])


def listed(board):
    return [stand.pegs for stand in board.stands()]


class SumTest(unittest.TestCase):
    def expected(self, one, other):
        """The error of a sum of two models as in [40], or None and the model of the sum."""
        pegs = one.pegs + tuple(peg for peg in other.pegs if peg not in one.pegs)
        needs = [pair for model in (one, other) for pair in itertools.permutations(model.pegs, 2) if model.needs(*pair)]
        bars = [pair for model in (one, other) for pair in itertools.combinations(model.pegs, 2) if model.clash(*pair)]
        whole = Model(pegs, needs, bars)
        if len(pegs) > 12:
            return ("NoMatch", "pegs"), None
        if whole.is_circular():
            return ("NoMatch", "circle"), None
        if any(whole.is_dead(peg) for peg in pegs):
            return ("NoMatch", "dead"), None
        return None, whole

    def check_sum(self, one, other, model, second):
        error, whole = self.expected(model, second)
        self.assertEqual(caught(operator.add, one, other), error)
        if error is not None:
            return error
        board = one + other
        self.assertIsInstance(board, Board)
        self.assertEqual(board.pegs, whole.pegs)
        costs = [one.cost_of(peg) if peg in one else other.cost_of(peg) for peg in whole.pegs]
        self.assertEqual([board.cost_of(peg) for peg in whole.pegs], costs)
        for pair in itertools.product(whole.pegs, repeat=2):
            self.assertEqual((board.needs(*pair), board.clash(*pair)), (whole.needs(*pair), whole.clash(*pair)))
        both = [pegs for pegs in whole.subsets() if self.is_stand(model, pegs) and self.is_stand(second, pegs)]
        self.assertEqual(listed(board), both)
        return "sum"

    def is_stand(self, model, pegs):
        """Whether the part of some pegs on a board is a stand of it."""
        return model.is_stand([peg for peg in pegs if peg in model.pegs])

    def test_the_parts_of_many_sums(self):
        found = []
        for many, seed in itertools.product(range(7), range(24)):
            left, right = grown(many, seed, "abcdef")[:3], grown(6 - many // 2, seed + 50, "defghi")[:3]
            found.append(self.check_sum(made(*left), made(*right), Model(*left), Model(*right)))
            left, right = grown(many, seed, "abcdef")[:3], grown(4, seed + 80, "cdef")[:3]
            found.append(self.check_sum(made(*left), made(*right), Model(*left), Model(*right)))
        for result in ("sum", ("NoMatch", "circle"), ("NoMatch", "dead")):
            self.assertGreater(found.count(result), 4)

    def test_no_common_pegs(self):
        strange = Board(("y", "x"), needs=(("x", "y"),), costs=(10, 1000))
        board = example() + strange
        self.assertEqual(board.pegs, ("a", "b", "c", "d", "y", "x"))
        self.assertEqual([board.cost_of(peg) for peg in board.pegs], [1, 2, 3, 1, 10, 1000])
        self.assertEqual(board.count_stands(), 8 * 3)
        self.assertEqual((strange + example()).pegs, ("y", "x", "a", "b", "c", "d"))

    def test_common_pegs(self):
        other = Board(("e", "c", "d"), needs=(("e", "d"),), bars=(("c", "d"),), costs=(4, 3, 1))
        board = example() + other
        needs, bars = NEEDS + (("e", "d"),), (("b", "c"), ("c", "d"))
        self.assertEqual(board, Board(PEGS + ("e",), needs=needs, bars=bars, costs=(1, 2, 3, 1, 4)))
        self.assertEqual((other + example()).pegs, ("e", "c", "d", "a", "b"))

    def test_needs_that_follow_from_both_boards(self):
        one = Board(("a", "b", "x"), needs=(("b", "a"),), bars=(("a", "x"),))
        board = one + Board(("b", "c"), needs=(("c", "b"),))
        self.assertEqual((board.needs("c", "a"), board.clash("c", "x")), (True, True))

    def test_with_itself_and_with_the_empty_board(self):
        for board, _ in itertools.chain(models(), grown_models(9, 4)):
            self.assertEqual(board + board, board)
            self.assertEqual(board + Board(()), board)
            self.assertEqual(Board(()) + board, board)

    def test_the_two_boards_stay(self):
        one, other = example(), Board(("x",), costs=(3,))
        one + other
        self.assertEqual((one, other), (example(), Board(("x",), costs=(3,))))

    def test_each_error(self):
        twelve = Board(TWELVE, costs=[1] * 11 + [2])
        self.assertEqual(caught(operator.add, example(), Board(("d",), costs=(2,))), ("NoMatch", "cost"))
        self.assertEqual(caught(operator.add, twelve, Board(("m",))), ("NoMatch", "pegs"))
        self.assertEqual((twelve + Board(("l",), costs=(2,))), twelve)
        self.assertEqual(len(Board(TWELVE[:6]) + Board(TWELVE[4:])), 12)
        other = Board(("a", "b"), needs=(("a", "b"),))
        self.assertEqual(caught(operator.add, Board(PEGS, needs=NEEDS), other), ("NoMatch", "circle"))
        other = Board(("a", "b"), bars=(("a", "b"),))
        self.assertEqual(caught(operator.add, Board(PEGS, needs=NEEDS), other), ("NoMatch", "dead"))

    def test_the_first_of_several_errors(self):
        wrongs = ("cost", "pegs", "circle", "dead")
        for chosen in itertools.product((False, True), repeat=4):
            cost_too, pegs_too, circle, dead = chosen
            one = Board(TWELVE, needs=(("b", "a"), ("d", "c")))
            other = Board(
                ("a", "b", "c", "d", "l") + (("m",) if pegs_too else ()),
                needs=(("a", "b"),) if circle else (),
                bars=(("c", "d"),) if dead else (),
                costs=(1, 1, 1, 1, 2 if cost_too else 1) + ((1,) if pegs_too else ()),
            )
            first = [word for word, wrong in zip(wrongs, chosen) if wrong]
            for pair in ((one, other), (other, one)):
                self.assertEqual(caught(operator.add, *pair), ("NoMatch", first[0]) if first else None)


class DifferenceTest(unittest.TestCase):
    def test_example(self):
        self.assertEqual(example() - "b", Board(("a", "c", "d"), needs=(("c", "a"),), costs=(1, 3, 1)))
        self.assertEqual(example() - "a", Board(("d",)))
        self.assertEqual(example() - "d", Board(PEGS[:3], needs=NEEDS, bars=(("b", "c"),), costs=COSTS[:3]))
        self.assertEqual(Board(("x",)) - "x", Board(()))

    def test_all_pegs_of_many_boards(self):
        for board, model in itertools.chain(models(), grown_models(9, 4)):
            for peg in model.pegs:
                less = board - peg
                self.assertIsInstance(less, Board)
                left = tuple(other for other in model.pegs if peg not in model.below[other])
                self.assertEqual(less.pegs, left)
                self.assertEqual([less.cost_of(other) for other in left], [board.cost_of(other) for other in left])
                self.assertEqual(listed(less), [pegs for pegs in model.stands() if peg not in pegs])
                for pair in itertools.product(left, repeat=2):
                    self.assertEqual((less.needs(*pair), less.clash(*pair)), (model.needs(*pair), model.clash(*pair)))

    def test_no_peg(self):
        for board in (example(), Board(())):
            for peg in ("e", "", "ab", "A"):
                self.assertEqual(caught(operator.sub, board, peg), ("NoPeg", peg))

    def test_the_board_stays(self):
        board = example()
        board - "a"
        self.assertEqual(board, example())


if __name__ == "__main__":
    unittest.main()
