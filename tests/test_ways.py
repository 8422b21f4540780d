"""Ways: [24] and [25]."""

import itertools
import operator
import unittest

from samples import BARS, COSTS, NEEDS, PEGS, caught, example, example_again, models

from needpegs.boards import Board
from needpegs.errors import Stuck
from needpegs.turns import Put, Take
from needpegs.ways import Way

OTHERS = (
    Board(PEGS, needs=NEEDS, bars=BARS),
    Board(PEGS, needs=NEEDS, costs=COSTS),
    Board(PEGS, bars=BARS, costs=COSTS),
    Board(PEGS + ("e",), needs=NEEDS, bars=BARS, costs=COSTS + (1,)),
)


def yielded(generator):
    """The pegs of the stands that a generator yields, and the error that ends it, or None."""
    found = []
    try:
        for stand in generator:
            found.append(stand.pegs)
    except (ValueError, KeyError) as error:
        return found, (type(error).__name__, *vars(error).values())
    return found, None


class MakingTest(unittest.TestCase):
    def test_board_and_turns(self):
        board = example()
        for turns in ((Put("a"), Take("b")), [Put("a"), Take("b")]):
            way = Way(board, turns)
            self.assertIs(way.board, board)
            self.assertEqual(way.turns, (Put("a"), Take("b")))
            self.assertIsInstance(way.turns, tuple)
        self.assertEqual((Way(board).turns, Way(board, []).turns), ((), ()))
        self.assertEqual(Way(turns=[Put("d")], board=board).turns, (Put("d"),))

    def test_later_changes_have_no_effect(self):
        turns = [Put("a"), Take("b")]
        way = Way(example(), turns)
        self.assertEqual(turns, [Put("a"), Take("b")])
        turns.append(Put("c"))
        turns[0] = Put("d")
        self.assertEqual((way.turns, len(way), repr(way)), ((Put("a"), Take("b")), 2, "Way(+a -b)"))

    def test_no_peg(self):
        turns = (Put("a"), Take("x"), Put("y"))
        self.assertEqual(caught(Way, example(), turns), ("NoPeg", "x"))
        self.assertEqual(caught(Way, example(), list(turns[::-1])), ("NoPeg", "y"))
        self.assertEqual(caught(Way, Board(()), (Put("a"),)), ("NoPeg", "a"))

    def test_a_way_need_not_be_possible(self):
        self.assertEqual(len(Way(example(), (Take("a"), Put("c"), Put("c")))), 3)


class ShapeTest(unittest.TestCase):
    def test_length_and_truth(self):
        board = example()
        self.assertEqual((len(Way(board)), len(Way(board, [Put("a")] * 200))), (0, 200))
        self.assertIs(bool(Way(board)), False)
        self.assertIs(bool(Way(board, (Take("a"),))), True)

    def test_cost(self):
        board = example()
        self.assertEqual((abs(Way(board)), abs(Way.read(board, "+a +b -b +c"))), (0, 8))
        for peg, cost in zip(PEGS, COSTS):
            self.assertEqual((abs(Way(board, (Put(peg),))), abs(Way(board, [Take(peg)] * 3))), (cost, 3 * cost))

    def test_way_back(self):
        board = example()
        way = Way.read(board, "+a +b -b +c")
        self.assertEqual(repr(-way), "Way(-c +b -b -a)")
        self.assertEqual((-way).turns, (Take("c"), Put("b"), Take("b"), Take("a")))
        self.assertEqual((-(-way), abs(-way), -Way(board)), (way, 8, Way(board)))
        self.assertEqual((repr(way), (-way).board), ("Way(+a +b -b +c)", board))

    def test_one_way_after_another(self):
        board = example()
        v, w = Way.read(board, "+a +b"), Way.read(example(), "-b +c")
        self.assertEqual((v + w).turns, v.turns + w.turns)
        self.assertEqual((repr(v + w), repr(w + v)), ("Way(+a +b -b +c)", "Way(-b +c +a +b)"))
        self.assertEqual((v + Way(board), Way(board) + v, (v + w).board), (v, v, board))
        self.assertEqual((repr(v), repr(w)), ("Way(+a +b)", "Way(-b +c)"))

    def test_sum_needs_equal_boards(self):
        for other in OTHERS:
            for turns in ((), (Put("a"),)):
                self.assertEqual(caught(operator.add, Way(example()), Way(other, turns)), ("NoMatch", "board"))
                self.assertEqual(caught(operator.add, Way(other, turns), Way(example())), ("NoMatch", "board"))

    def test_equality(self):
        texts = ("", "+a", "-a", "+a +b", "+b +a", "+a +a", "+b")
        ways = [Way.read(example(), text) for text in texts]
        again = [Way.read(example(), text) for text in texts]
        for (at, one), (to, other) in itertools.product(enumerate(ways), enumerate(again)):
            self.assertIs(one == other, at == to)
            self.assertIs(one != other, at != to)

    def test_ways_of_other_boards_are_different(self):
        for other in OTHERS:
            for turns in ((), (Put("a"),)):
                self.assertIs(Way(example(), turns) == Way(other, turns), False)
                self.assertIs(Way(example(), turns) != Way(other, turns), True)

    def test_a_way_equals_nothing_else(self):
        way = Way(example(), (Put("a"),))
        for other in ((Put("a"),), [Put("a")], Put("a"), "Way(+a)", "+a", None, 1, True, example(), example().empty):
            self.assertIs(way == other, False)
            self.assertIs(way != other, True)
        self.assertIs(Way(example()) == (), False)

    def test_repr(self):
        board = example()
        self.assertEqual(repr(Way(board)), "Way()")
        self.assertEqual(repr(Way(board, (Take("d"),))), "Way(-d)")
        self.assertEqual(repr(Way(board, (Put("a"), Take("b")))), "Way(+a -b)")


class ReadingTest(unittest.TestCase):
    def test_right_texts(self):
        board = example()
        for turns in ((), (Put("a"),), (Take("d"), Put("a"), Put("a"))):
            way = Way(board, turns)
            self.assertEqual(Way.read(board, " ".join(map(repr, turns))), way)
        self.assertIs(Way.read(text="", board=board).board, board)
        self.assertEqual(Way.read(board, "").turns, ())

    def test_wrong_words(self):
        cases = {
            " ": 0, "  ": 0, " +a": 0, "a": 0, "a +a": 0, "+a ": 1, "+a  +b": 1, "+a +b ": 2, "+a +b  +c": 2,
            "+a +b +": 2, "+a ++b": 1, "+a\n": 0, "+a\n+b": 0, "+a +b\n": 1, "+a +B": 1, "+a,+b": 0, "+a - b": 1,
        }
        for text, at in cases.items():
            with self.subTest(text=text):
                self.assertEqual(caught(Way.read, example(), text), ("NoText", at))

    def test_no_text_comes_before_no_peg(self):
        self.assertEqual(caught(Way.read, example(), "+x +a ++b"), ("NoText", 2))
        self.assertEqual(caught(Way.read, example(), "+x "), ("NoText", 1))
        self.assertEqual(caught(Way.read, example(), "+a -y +x"), ("NoPeg", "y"))


class LeadingTest(unittest.TestCase):
    def test_examples(self):
        board = example()
        way = Way.read(board, "+a +b -b +c")
        self.assertEqual((way(board.empty).pegs, abs(way), repr(-way)), (("a", "c"), 8, "Way(-c +b -b -a)"))
        self.assertEqual(caught(operator.add, board.empty, Way.read(board, "+a +c +b")), ("Stuck", 2))

    def check_all(self, way, start, expected, error):
        """All three ways of asking, with the pegs of the expected stands."""
        self.assertEqual(yielded(way.stands(start)), (expected, error))
        self.assertEqual(yielded(way.stands(start=start)), (expected, error))
        self.assertEqual(caught(way, start), error)
        self.assertEqual(caught(operator.add, start, way), error)
        if error is None:
            self.assertEqual((way(start).pegs, (start + way).pegs), (expected[-1], expected[-1]))
            self.assertEqual(way(stand=start), start + way)

    def test_all_short_ways_on_small_boards(self):
        for board, model in models():
            stands = set(model.stands())
            for start in stands:
                for many in range(3):
                    for turns in itertools.product([kind(peg) for kind in (Put, Take) for peg in model.pegs], repeat=many):
                        expected, error = self.walked(stands, start, turns, model)
                        self.check_all(Way(board, turns), board(start), expected, error)

    def walked(self, stands, start, turns, model):
        """The stands of a way, from the definitions alone, and its error."""
        found = [start]
        for at, turn in enumerate(turns):
            after = model.ordered(set(found[-1]) ^ {turn.peg})
            if (turn.sign == "+") == (turn.peg in found[-1]) or after not in stands:
                return found, ("Stuck", at)
            found.append(after)
        return found, None

    def test_each_reason_to_be_stuck(self):
        board = example()
        for text, expected in {
            "+a +a": [(), ("a",)],
            "+a -d": [(), ("a",)],
            "+d +b +a": [(), ("d",)],
            "+a +b +c -d": [(), ("a",), ("a", "b")],
            "+a +c -a": [(), ("a",), ("a", "c")],
        }.items():
            self.check_all(Way.read(board, text), board.empty, expected, ("Stuck", len(expected) - 1))

    def test_the_generator_yields_the_stand_before_the_turn_first(self):
        board = example()
        stands = Way.read(board, "+a +c +b +d").stands(board.empty)
        self.assertEqual([next(stands).pegs for _ in range(3)], [(), ("a",), ("a", "c")])
        with self.assertRaises(Stuck) as context:
            next(stands)
        self.assertEqual(context.exception.at, 2)

    def test_the_way_without_turns(self):
        board = example()
        for start in (board.empty, board(("a", "b"))):
            self.check_all(Way(board), start, [start.pegs], None)

    def test_boards_that_are_not_equal(self):
        for other in OTHERS:
            for text in ("", "+a", "-a"):
                self.check_all(Way.read(example(), text), other.empty, [], ("NoMatch", "board"))

    def test_an_equal_board_made_anew(self):
        again = example_again()
        self.check_all(Way.read(example(), "+d +a"), again.empty, [(), ("d",), ("a", "d")], None)
        self.check_all(Way.read(again, "+a +b +c"), example().empty, [(), ("a",), ("a", "b")], ("Stuck", 2))

    def test_a_way_and_the_way_back(self):
        board = example()
        start, way = board(("a", "b")), Way.read(board, "-b +d +c")
        self.assertEqual(start + way + -way, start)
        self.assertEqual((start + (way + -way)).pegs, ("a", "b"))
        self.assertEqual((start.pegs, len(way)), (("a", "b"), 3))

    def test_many_turns(self):
        board = example()
        way = Way.read(board, " ".join(["+a -a"] * 1000))
        self.assertEqual((way(board.empty), abs(way), len(list(way.stands(board.empty)))), (board.empty, 2000, 2001))

    def test_the_same_call_gives_the_same(self):
        board = example()
        way = Way.read(board, "+a +b")
        one, other = way.stands(board.empty), way.stands(board.empty)
        self.assertEqual([(s.pegs, t.pegs) for s, t in zip(one, other)], [((), ()), (("a",),) * 2, (("a", "b"),) * 2])
        self.assertEqual(list(way.stands(board.empty)), list(way.stands(board.empty)))


if __name__ == "__main__":
    unittest.main()
