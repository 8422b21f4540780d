"""Turns: [23]."""

import itertools
import unittest

from samples import caught, example, models

from needpegs.boards import Board
from needpegs.turns import Put, Take, Turn

WRONG_TEXTS = (
    "", "+", "-", "a", "ab", "+A", "-A", "+abcdefg", "-abcdefg", "++a", "+-a", "--a", " +a", "+a ", "-a ", "+ a",
    "+a\n", "\n+a", "+a +b", "+a1", "+1", "a+", "*a", "+aB", "+a-",
)


class TurnsTest(unittest.TestCase):
    def test_peg_and_sign(self):
        self.assertEqual((Put("a").peg, Put("a").sign), ("a", "+"))
        self.assertEqual((Take("abcdef").peg, Take("abcdef").sign), ("abcdef", "-"))
        self.assertEqual((Put(peg="b").peg, Take(peg="c").peg), ("b", "c"))

    def test_classes(self):
        self.assertIsInstance(Put("a"), Turn)
        self.assertIsInstance(Take("a"), Turn)
        self.assertNotIsInstance(Put("a"), Take)
        self.assertNotIsInstance(Take("a"), Put)
        self.assertEqual((Put.__bases__, Take.__bases__), ((Turn,), (Turn,)))

    def test_repr(self):
        self.assertEqual((repr(Put("a")), repr(Take("abc"))), ("+a", "-abc"))

    def test_opposite(self):
        self.assertEqual((repr(-Put("ab")), repr(-Take("ab"))), ("-ab", "+ab"))
        self.assertIsInstance(-Put("a"), Take)
        self.assertIsInstance(-Take("a"), Put)
        turn = Put("a")
        self.assertEqual((-(-turn), turn.sign), (turn, "+"))

    def test_equality(self):
        turns = [kind(peg) for kind in (Put, Take) for peg in ("a", "b")]
        for (at, one), (to, other) in itertools.product(enumerate(turns), enumerate(turns)):
            self.assertIs(one == other, at == to)
            self.assertIs(one != other, at != to)
        self.assertTrue(Put("a") == Put("a"))
        self.assertFalse(Take("a") != Take("a"))

    def test_a_turn_equals_nothing_else(self):
        for turn in (Put("a"), Take("a")):
            for other in ("+a", "-a", "a", ("+", "a"), ["+", "a"], None, 0, True, Turn(), example(), example().empty):
                self.assertIs(turn == other, False)
                self.assertIs(turn != other, True)
                self.assertIs(other == turn, False)

    def test_call_on_every_stand(self):
        for board, model in models():
            for pegs in model.stands():
                for peg in model.pegs + ("q",):
                    self.check_call(board(pegs), peg)

    def check_call(self, stand, peg):
        for turn, method in ((Put(peg), stand.put), (Take(peg), stand.take)):
            error = caught(method, peg)
            self.assertEqual(caught(turn, stand), error)
            if error is None:
                self.assertEqual(turn(stand), method(peg))
                self.assertEqual(turn(stand=stand).pegs, method(peg).pegs)

    def test_call_with_each_error(self):
        board = example()
        self.assertEqual(Put("a")(board.empty).pegs, ("a",))
        self.assertEqual(Take("a")(board(("a", "d"))).pegs, ("d",))
        self.assertEqual(caught(Put("x"), board.empty), ("NoPeg", "x"))
        self.assertEqual(caught(Put("a"), board(("a",))), ("NoTurn", "a"))
        self.assertEqual(caught(Put("b"), board.empty), ("Missing", "b", "a"))
        self.assertEqual(caught(Put("c"), board(("a", "b"))), ("Barred", "c", "b"))
        self.assertEqual(caught(Take("x"), board.empty), ("NoPeg", "x"))
        self.assertEqual(caught(Take("a"), board.empty), ("NoTurn", "a"))
        self.assertEqual(caught(Take("a"), board(("a", "c"))), ("Needed", "a", "c"))

    def test_the_first_peg_in_board_order_is_named(self):
        board = Board(("d", "b", "c", "a"), needs=(("a", "c"), ("a", "b"), ("c", "d"), ("b", "d")))
        self.assertEqual(caught(Put("a"), board(("d",))), ("Missing", "a", "b"))
        self.assertEqual(caught(Take("d"), board(("d", "c", "b"))), ("Needed", "d", "b"))
        barred = Board(("d", "b", "a"), bars=(("a", "b"), ("a", "d")))
        self.assertEqual(caught(Put("a"), barred(("b", "d"))), ("Barred", "a", "d"))

    def test_call_leaves_the_stand_as_it_was(self):
        stand = example()(("a",))
        Put("b")(stand)
        Take("a")(stand)
        self.assertEqual(stand.pegs, ("a",))


class ReadingTest(unittest.TestCase):
    def test_right_texts(self):
        for name in ("a", "z", "ab", "abcdef"):
            self.assertEqual(Turn.read("+" + name), Put(name))
            self.assertEqual(Turn.read(text="-" + name), Take(name))
            self.assertEqual(repr(Turn.read("-" + name)), "-" + name)

    def test_wrong_texts(self):
        for text in WRONG_TEXTS:
            with self.subTest(text=text):
                self.assertEqual(caught(Turn.read, text), ("NoText", 0))

    def test_repr_is_read_back(self):
        for turn in (Put("a"), Take("abc")):
            self.assertEqual(Turn.read(repr(turn)), turn)

    def test_read_is_asked_off_the_classes_below_and_off_turns(self):
        self.assertEqual((Put.read("-a"), Take("b").read("+a")), (Take("a"), Put("a")))


if __name__ == "__main__":
    unittest.main()
