"""Texts of boards: [18] and [19]."""

import itertools
import re
import unittest

from samples import TWELVE, caught, example, grown, grown_models, models

from needpegs.boards import Board
from needpegs.texts import show_board

TEXT = "peg a 1\npeg b 2\npeg c 3\npeg d 1\nneeds b a\nneeds c a\nbars b c"


def first_wrong(text):
    """The index of the first line that is not allowed, or None, from the words of [19] alone."""
    lines = text.split("\n") if text else []
    pegs, rank = [], 0
    for at, line in enumerate(lines):
        peg = re.fullmatch("peg ([a-z]{1,6}) ([1-9][0-9]{0,3})", line)
        pair = re.fullmatch("(needs|bars) ([a-z]+) ([a-z]+)", line)
        if peg:
            if rank > 0 or peg[1] in pegs or int(peg[2]) > 1000 or len(pegs) == 12:
                return at
            pegs.append(peg[1])
        elif pair and ("needs", "bars").index(pair[1]) + 1 >= rank and {pair[2], pair[3]} <= set(pegs):
            rank = ("needs", "bars").index(pair[1]) + 1
            if pair[2] == pair[3]:
                return at
        else:
            return at
    return None


class ShowingTest(unittest.TestCase):
    def test_example(self):
        self.assertEqual(show_board(example()), TEXT)
        self.assertEqual(show_board(board=example()), TEXT)

    def test_no_pegs(self):
        self.assertEqual(show_board(Board(())), "")

    def test_pegs_alone(self):
        self.assertEqual(show_board(Board(("zz", "abcdef"), costs=(1000, 10))), "peg zz 1000\npeg abcdef 10")

    def test_lines_of_many_boards(self):
        for board, model in itertools.chain(models(), grown_models(9, 5)):
            lines = [f"peg {peg} {board.cost_of(peg)}" for peg in model.pegs]
            pairs = list(itertools.product(model.pegs, repeat=2))
            lines += [f"needs {one} {other}" for one, other in pairs if model.needs(one, other)]
            clashes = itertools.combinations(model.pegs, 2)
            lines += [f"bars {one} {other}" for one, other in clashes if model.clash(one, other)]
            self.assertEqual(show_board(board), "\n".join(lines))

    def test_what_follows_is_written_too(self):
        board = Board(("c", "b", "a", "x"), needs=(("b", "a"), ("c", "b"), ("b", "a")), bars=(("x", "a"), ("a", "x")))
        expected = "needs c b\nneeds c a\nneeds b a\nbars c x\nbars b x\nbars a x"
        self.assertEqual(show_board(board), "peg c 1\npeg b 1\npeg a 1\npeg x 1\n" + expected)


class ReadingTest(unittest.TestCase):
    def test_examples(self):
        self.assertEqual(Board.read(TEXT), example())
        self.assertEqual(Board.read(text=TEXT), example())
        self.assertEqual(caught(Board.read, "peg a 1\nneeds a b"), ("NoText", 1))

    def test_the_empty_text(self):
        self.assertEqual(Board.read(""), Board(()))

    def test_what_is_shown_is_read_again(self):
        for board, _ in itertools.chain(models(), grown_models(9, 5)):
            self.assertEqual(Board.read(show_board(board)), board)

    def test_what_is_shown_of_twelve_pegs_is_read_again(self):
        names = tuple(peg * 6 for peg in TWELVE)
        chain = Board(names[::-1], needs=tuple(zip(names[1:], names)), costs=list(range(989, 1001)))
        self.assertEqual(show_board(chain).count("\n"), 11 + 66)
        apart = Board(names, bars=tuple(itertools.combinations(names, 2))[:40])
        both = Board(TWELVE, needs=tuple(zip(TWELVE[2:], TWELVE)), bars=(("a", "b"),))
        for board in (chain, apart, both):
            self.assertEqual(Board.read(show_board(board)), board)

    def test_repeated_pairs_and_pairs_that_follow(self):
        lines = ["peg a 5", "peg b 6", "peg c 7", "peg d 8"]
        lines += ["needs c b", "needs b a", "needs c b", "needs c a"] + ["bars d a", "bars a d", "bars d a", "bars c d"]
        board = Board(("a", "b", "c", "d"), needs=(("c", "b"), ("b", "a")), bars=(("a", "d"),), costs=(5, 6, 7, 8))
        self.assertEqual(Board.read("\n".join(lines)), board)
        again = lines[:4] + lines[4:8] * 10 + lines[8:] * 10
        self.assertEqual(Board.read("\n".join(again)), board)

    def test_figures(self):
        for figure in ("1", "9", "10", "99", "100", "999", "1000"):
            self.assertEqual(Board.read(f"peg a {figure}").cost_of("a"), int(figure))
        wrong = "0 00 01 0001 0999 1001 9999 10000 00001 -1 +1 1. 1a a 1,000 1_0".split()
        for figure in wrong:
            self.assertEqual(caught(Board.read, f"peg b 1\npeg a {figure}"), ("NoText", 1))

    def test_names(self):
        words = ("peg", "needs", "bars", "abcdef", "z")
        text = "\n".join(f"peg {word} 1" for word in words) + "\nneeds needs bars\nbars peg needs"
        board = Board(words, needs=(("needs", "bars"),), bars=(("peg", "needs"),))
        self.assertEqual(Board.read(text), board)
        for name in ("", "A", "aB", "abcdefg", "a1", "1", "a-", "+a"):
            self.assertEqual(caught(Board.read, f"peg b 1\npeg {name} 1"), ("NoText", 1))

    def test_lines_of_another_form(self):
        lines = (
            "", " ", "   ", "peg", "peg c", "peg c 1 1", "peg c 1 ", " peg c 1", "peg  c 1", "peg c  1", "peg  1",
            "c 1", "Peg c 1", "pegs c 1", "needs a", "need b a", "needs b a a", "needs  b a", "needs b  a",
            " needs b a", "needs b a ", "needs b", "Needs b a", "needs", "bar a b", "bars a", "bars a b c", "bars a  b", "bars  a b",
            " bars a b", "bars a b ", "peg c c", "# a b", "needs b 1", "bars 1 a",
        )
        for line in lines:
            for more in ("", "\npeg c 1", "\n", "\nneeds a a"):
                with self.subTest(line=line, more=more):
                    self.assertEqual(caught(Board.read, f"peg a 1\npeg b 1\n{line}{more}"), ("NoText", 2))
            if line != "":
                self.assertEqual(caught(Board.read, line), ("NoText", 0))

    def test_empty_lines(self):
        for text, at in {"\n": 0, "\n\n": 0, "\npeg a 1": 0, "peg a 1\n": 1, "peg a 1\n\npeg b 1": 1, TEXT + "\n": 7,
                         TEXT.replace("\nneeds", "\n\nneeds"): 4, " ": 0}.items():
            self.assertEqual(caught(Board.read, text), ("NoText", at))

    def test_lines_that_come_too_late(self):
        pegs = "peg a 1\npeg b 1\npeg c 1"
        for rest, at in {
            "needs b a\npeg d 1": 4, "bars b a\npeg d 1": 4, "bars a c\nneeds b a": 4,
            "needs b a\nbars a c\nneeds c a": 5, "needs b a\nbars a c\npeg d 1": 5,
            "bars a b\nbars a c\nbars a b\nneeds b a": 6,
        }.items():
            self.assertEqual(caught(Board.read, f"{pegs}\n{rest}"), ("NoText", at))

    def test_pegs_of_pairs(self):
        for word in ("needs", "bars"):
            for pair in ("a a", "b b", "a x", "x a", "x y", "x x"):
                self.assertEqual(caught(Board.read, f"peg a 1\npeg b 1\n{word} {pair}"), ("NoText", 2))
            self.assertEqual(caught(Board.read, f"{word} a b\npeg a 1\npeg b 1"), ("NoText", 0))
            self.assertEqual(caught(Board.read, f"peg a 1\n{word} a b\npeg b 1"), ("NoText", 1))
            self.assertEqual(caught(Board.read, f"peg a 1\n{word} b a\npeg b 1"), ("NoText", 1))

    def test_a_name_that_stood_before(self):
        self.assertEqual(caught(Board.read, "peg a 1\npeg b 1\npeg a 2"), ("NoText", 2))
        self.assertEqual(caught(Board.read, "peg a 1\npeg a 1\npeg a 1"), ("NoText", 1))

    def test_the_thirteenth_peg_line(self):
        twelve = "\n".join(f"peg {peg} 1" for peg in TWELVE)
        self.assertEqual(len(Board.read(twelve)), 12)
        for more in ("peg m 1", "peg m 1\npeg n 1", "peg a 1", "needs m a"):
            self.assertEqual(caught(Board.read, f"{twelve}\n{more}"), ("NoText", 12))
        self.assertEqual(caught(Board.read, f"{twelve}\nneeds a b\nbars c d\npeg m 1"), ("NoText", 14))

    def test_no_board(self):
        pegs = "peg a 1\npeg b 1\npeg c 1\n"
        for rest, error in {
            "needs a b\nneeds b a": ("circle", 1),
            "needs a b\nneeds a b\nneeds b c\nneeds c a\nneeds b a": ("circle", 3),
            "needs a b\nneeds b a\nbars a b": ("circle", 1), "needs c b\nneeds b a\nbars a c": ("dead", 2),
            "needs a b\nbars c b\nbars b a": ("dead", 0), "needs c a\nneeds c b\nbars a b": ("dead", 2),
        }.items():
            self.assertEqual(caught(Board.read, pegs + rest), ("NoBoard", *error))

    def test_no_text_comes_before_no_board(self):
        pegs = "peg a 1\npeg b 1\n"
        self.assertEqual(caught(Board.read, pegs + "needs a b\nneeds b a\nbars a a"), ("NoText", 4))
        self.assertEqual(caught(Board.read, pegs + "needs a b\nbars b a\n"), ("NoText", 4))

    def check_text(self, text):
        at = first_wrong(text)
        found = caught(Board.read, text)
        if at is not None:
            self.assertEqual(found, ("NoText", at), text)
        elif found is not None:
            self.assertIn(found[:2], (("NoBoard", "circle"), ("NoBoard", "dead")), text)

    def test_each_change_of_one_character(self):
        pegs, needs, bars, costs = grown(4, 2)
        other = show_board(Board(pegs, needs=needs, bars=bars, costs=costs))
        for text in (TEXT, other, "peg aa 1000\npeg abcdef 10\nbars abcdef aa"):
            for at in range(len(text) + 1):
                self.check_text(text[:at] + text[at + 1:])
                for letter in " \nab019pB":
                    self.check_text(text[:at] + letter + text[at:])
                    self.check_text(text[:at] + letter + text[at + 1:])

    def test_each_order_of_the_lines(self):
        for lines in itertools.permutations(("peg a 1", "peg b 2", "peg c 3", "needs b a", "bars b c", "needs c a")):
            for many in (4, 6):
                self.check_text("\n".join(lines[:many]))


if __name__ == "__main__":
    unittest.main()
