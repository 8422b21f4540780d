"""Stands: [20] to [22], and the cheapest ways between them: [26]."""

import itertools
import operator
import unittest

from samples import caught, example, example_again, grown_models, models, strange_boards

from needpegs.boards import Board
from needpegs.stands import Stand
from needpegs.ways import Way

OTHERS = strange_boards()


def triples():
    """Each board with its model and all pairs of its stands."""
    for board, model in itertools.chain(models(), grown_models(6, 3)):
        for one, other in itertools.product(model.stands(), repeat=2):
            yield board, model, one, other


class ShapeTest(unittest.TestCase):
    def test_board_and_pegs(self):
        board = example()
        stand = board(("b", "a"))
        self.assertIs(stand.board, board)
        self.assertEqual(stand.pegs, ("a", "b"))

    def test_length_members_and_truth(self):
        stand = example()(("a", "b"))
        self.assertEqual((len(stand), len(example().empty)), (2, 0))
        self.assertEqual([peg in stand for peg in ("a", "b", "c", "x", "")], [True, True, False, False, False])
        self.assertIs(bool(stand), True)
        self.assertIs(bool(example().empty), False)

    def test_equality(self):
        stand = example()(("a", "b"))
        self.assertTrue(stand == example()(("b", "a")))
        self.assertFalse(stand != example()(("b", "a")))
        others = (Board(("a", "b"))(("a", "b")), example()(("a",)), ("a", "b"), "Stand(a b)", None, 3, example())
        for other in others + tuple(board(("a", "b")) for board in OTHERS):
            self.assertFalse(stand == other)
            self.assertTrue(stand != other)

    def test_repr(self):
        self.assertEqual(repr(example()(("b", "a"))), "Stand(a b)")
        self.assertEqual(repr(example().empty), "Stand()")


class TwoStandsTest(unittest.TestCase):
    def test_examples(self):
        board = example()
        a, b = board(("a", "b")), board(("a", "c", "d"))
        self.assertEqual(((a & b).pegs, a ^ b, a.distance(b)), (("a",), ("b", "c", "d"), 6))
        self.assertEqual(caught(operator.or_, a, b), ("Barred", "b", "c"))

    def test_two_stands(self):
        for board, model, one, other in triples():
            a, b = board(one), board(other)
            self.assertEqual((a & b).pegs, model.ordered(set(one) & set(other)))
            self.assertEqual(a ^ b, model.ordered(set(one) ^ set(other)))
            self.assertIs(a.within(b), set(one) <= set(other))
            self.assertEqual(a.distance(b), sum(board.cost_of(peg) for peg in set(one) ^ set(other)))

    def test_union(self):
        for board, model, one, other in triples():
            clashes = [pair for pair in itertools.product(one, other) if model.clash(*pair)]
            if clashes:
                self.assertEqual(caught(operator.or_, board(one), board(other)), ("Barred", *clashes[0]))
            else:
                self.assertEqual((board(one) | board(other)).pegs, model.ordered(set(one) | set(other)))

    def test_three_stands(self):
        for board, model in itertools.chain(models(), grown_models(5, 3)):
            for one, two, three in itertools.product(model.stands(), repeat=3):
                a, b, c = board(one), board(two), board(three)
                twice = [peg for peg in model.pegs if (peg in one) + (peg in two) + (peg in three) >= 2]
                self.assertEqual(a.middle(b, c).pegs, tuple(twice))
                between = set(two) & set(three) <= set(one) <= set(two) | set(three)
                self.assertIs(a.is_between(b, c), between)

    def test_no_match(self):
        # The pegs of the two stands clash on the board of the example: NoMatch comes first.
        stand, same = example()(("a", "b")), example()(("a", "c"))
        for strange in [board(("a", "c")) for board in OTHERS] + [OTHERS[0].empty]:
            for call in (operator.and_, operator.or_, operator.xor, operator.sub, Stand.within, Stand.distance):
                self.assertEqual(caught(call, stand, strange), ("NoMatch", "board"))
                self.assertEqual(caught(call, strange, stand), ("NoMatch", "board"))
            for call in (Stand.middle, Stand.is_between):
                for places in itertools.product((same, strange), repeat=3):
                    expected = None if places == (same,) * 3 or places == (strange,) * 3 else ("NoMatch", "board")
                    self.assertEqual(caught(call, *places), expected)

    def test_an_equal_board_made_anew(self):
        again = example_again()
        one, other = example()(("a", "b")), again(("a", "c", "d"))
        self.assertEqual(((one & other).pegs, one ^ other, one.distance(other)), (("a",), ("b", "c", "d"), 6))
        self.assertEqual(caught(operator.or_, other, one), ("Barred", "c", "b"))
        self.assertEqual((one | again(("d",))).pegs, ("a", "b", "d"))
        self.assertEqual((one.within(other), again(("a",)).within(one)), (False, True))
        self.assertEqual(one.middle(other, again(("d",))).pegs, ("a", "d"))
        self.assertIs(again(("a",)).is_between(one, other), True)
        self.assertEqual((one + (other - one)).pegs, other.pegs)
        self.assertTrue(one == again(("b", "a")))

    def test_arguments_stay(self):
        a, b = example()(("a", "b")), example()(("a", "c", "d"))
        for call in (operator.and_, operator.or_, operator.xor, operator.sub, Stand.within, Stand.distance):
            caught(call, a, b)
        for call in (Stand.middle, Stand.is_between):
            call(a, b, b)
        self.assertEqual((a.pegs, b.pegs), (("a", "b"), ("a", "c", "d")))

    def test_keywords(self):
        a, b = example()(("a", "b")), example()(("a",))
        self.assertEqual((a.within(other=b), a.distance(other=b)), (False, 2))
        self.assertEqual((a.middle(other=a, one=b).pegs, a.is_between(other=a, one=b)), (("a", "b"), True))


class WayTest(unittest.TestCase):
    def test_a_cheapest_way_between_all_stands(self):
        for board, model, one, other in triples():
            a, b = board(one), board(other)
            way = b - a
            self.assertIsInstance(way, Way)
            self.assertEqual(way.board, board)
            self.assertEqual((a + way).pegs, other)
            self.assertEqual(sorted(turn.peg for turn in way.turns), sorted(set(one) ^ set(other)))
            self.assertEqual(abs(way), sum(board.cost_of(peg) for peg in set(one) ^ set(other)))
            self.assertEqual(b - a, way)

    def test_a_chain_in_any_board_order(self):
        for pegs in (tuple("abcdefghijkl"), tuple("lkjihgfedcba"), tuple("gahbicjdkelf")):
            board = Board(pegs, needs=tuple(zip("bcdefghijkl", "abcdefghijk")))
            whole = board(pegs)
            self.assertEqual(repr(whole - board.empty), "Way(+a +b +c +d +e +f +g +h +i +j +k +l)")
            self.assertEqual(repr(board.empty - whole), "Way(-l -k -j -i -h -g -f -e -d -c -b -a)")

    def test_what_clashes_goes_out_before(self):
        board = Board(("a", "b", "c", "d"), needs=(("b", "a"), ("d", "c")), bars=(("a", "c"),), costs=(7, 5, 3, 2))
        way = board(("d", "c")) - board(("a", "b"))
        self.assertEqual((repr(way), abs(way)), ("Way(-b -a +c +d)", 17))

    def test_from_a_stand_to_itself(self):
        for board, _ in models():
            for stand in board.stands():
                self.assertEqual((stand - stand), Way(board))
        self.assertEqual(Board(()).empty - Board(()).empty, Way(Board(())))


class TurningTest(unittest.TestCase):
    def expected_put(self, model, pegs, peg):
        if peg not in model.pegs:
            return ("NoPeg", peg)
        if peg in pegs:
            return ("NoTurn", peg)
        missing = [other for other in model.pegs if model.needs(peg, other) and other not in pegs]
        if missing:
            return ("Missing", peg, missing[0])
        clashing = [other for other in pegs if model.clash(peg, other)]
        return ("Barred", peg, clashing[0]) if clashing else None

    def expected_take(self, model, pegs, peg):
        if peg not in model.pegs:
            return ("NoPeg", peg)
        if peg not in pegs:
            return ("NoTurn", peg)
        needing = [other for other in pegs if model.needs(other, peg)]
        return ("Needed", peg, needing[0]) if needing else None

    def test_put_and_take(self):
        for board, model in itertools.chain(models(), grown_models(7, 3)):
            for pegs in model.stands():
                for peg in model.pegs + ("q", ""):
                    self.check_turns(board, model, pegs, peg)

    def check_turns(self, board, model, pegs, peg):
        stand = board(pegs)
        put, take = self.expected_put(model, pegs, peg), self.expected_take(model, pegs, peg)
        self.assertEqual(caught(stand.put, peg), put)
        self.assertEqual(caught(stand.take, peg=peg), take)
        if put is None:
            self.assertEqual(stand.put(peg=peg).pegs, model.ordered(pegs + (peg,)))
        if take is None:
            self.assertEqual(stand.take(peg).pegs, model.ordered(set(pegs) - {peg}))
        self.assertEqual((peg in stand.free, peg in stand.loose), (put is None, take is None))
        self.assertEqual(stand.pegs, pegs)

    def test_free_and_loose_are_in_board_order(self):
        board = Board(("d", "a", "c", "b"))
        self.assertEqual((board.empty.free, board.empty.loose), (("d", "a", "c", "b"), ()))
        self.assertEqual((board(("b", "a")).free, board(("b", "a")).loose), (("d", "c"), ("a", "b")))

    def test_missing_comes_before_barred(self):
        stand = example()(("a", "b"))
        self.assertEqual(caught(stand.put, "c"), ("Barred", "c", "b"))
        self.assertEqual(caught(example().empty.put, "c"), ("Missing", "c", "a"))
        board = Board(("a", "b", "c", "d"), needs=(("d", "c"), ("d", "b")), bars=(("d", "a"),))
        self.assertEqual(caught(board(("a", "c")).put, "d"), ("Missing", "d", "b"))


if __name__ == "__main__":
    unittest.main()
