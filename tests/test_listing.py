"""All stands of a board: [17], and what [11] says of stands and of the cheapest ways between them."""

import itertools
import types
import unittest

from samples import NEEDS, PEGS, TWELVE, example, grown_models, models

from needpegs.boards import Board


def listed(board):
    return [stand.pegs for stand in board.stands()]


class ListingTest(unittest.TestCase):
    def test_example(self):
        expected = [
            (), ("a",), ("d",), ("a", "b"), ("a", "c"), ("a", "d"), ("a", "b", "d"), ("a", "c", "d"),
        ]
        self.assertEqual(listed(example()), expected)
        self.assertEqual(example().count_stands(), 8)

    def test_a_search_through_all_sets(self):
        for board, model in itertools.chain(models(), grown_models(9, 8)):
            self.assertEqual(listed(board), model.stands())
            self.assertEqual(board.count_stands(), len(model.stands()))

    def test_each_is_a_stand_of_the_board(self):
        for board, _ in grown_models(6, 2):
            for stand in board.stands():
                self.assertEqual(stand, board(stand.pegs))
                self.assertIs(stand.board, board)

    def test_a_chain_of_twelve(self):
        for pegs in (TWELVE, TWELVE[::-1]):
            board = Board(pegs, needs=tuple(zip(TWELVE[1:], TWELVE)))
            expected = [tuple(peg for peg in pegs if peg in TWELVE[:many]) for many in range(13)]
            self.assertEqual(listed(board), expected)
            self.assertEqual(board.count_stands(), 13)

    def test_twelve_free_pegs(self):
        expected = [pegs for many in range(13) for pegs in itertools.combinations(TWELVE[::-1], many)]
        self.assertEqual(listed(Board(TWELVE[::-1])), expected)
        self.assertEqual(Board(TWELVE).count_stands(), 4096)

    def test_twelve_pegs_that_all_clash(self):
        board = Board(TWELVE, bars=tuple(itertools.combinations(TWELVE, 2)))
        self.assertEqual(listed(board), [()] + [(peg,) for peg in TWELVE])
        self.assertEqual(board.count_stands(), 13)

    def test_no_pegs(self):
        self.assertEqual((listed(Board(())), Board(()).count_stands()), ([()], 1))


class GeneratorTest(unittest.TestCase):
    def test_it_is_a_generator(self):
        self.assertIsInstance(example().stands(), types.GeneratorType)

    def test_left_half_read_and_asked_anew(self):
        board = example()
        whole = listed(board)
        for many in range(9):
            left = board.stands()
            self.assertEqual([next(left).pegs for _ in range(many)], whole[:many])
            self.assertEqual(listed(board), whole)
            self.assertEqual([stand.pegs for stand in left], whole[many:])

    def test_two_at_once(self):
        board = example()
        one, other, strange = board.stands(), board.stands(), Board(PEGS, needs=NEEDS).stands()
        found = [[next(one).pegs, next(one).pegs, next(other).pegs, next(strange).pegs] for _ in range(4)]
        whole, more = listed(board), listed(Board(PEGS, needs=NEEDS))
        expected = [[whole[2 * at], whole[2 * at + 1], whole[at], more[at]] for at in range(4)]
        self.assertEqual(found, expected)
        self.assertEqual([stand.pegs for stand in other], whole[4:])
        self.assertEqual(list(one), [])

    def test_other_calls_in_between(self):
        board = example()
        found = []
        for stand in board.stands():
            found.append(stand.pegs)
            board.count_stands()
            stand - board.empty
            board + board
            board - "a"
        self.assertEqual(found, listed(board))


class PromiseTest(unittest.TestCase):
    def test_the_middle_is_the_only_stand_between_each_two(self):
        for board, _ in itertools.chain(models(), grown_models(5, 3)):
            stands = list(board.stands())
            for one, two, three in itertools.product(stands, repeat=3):
                pairs = ((one, two), (one, three), (two, three))
                between = [stand for stand in stands if all(stand.is_between(*pair) for pair in pairs)]
                self.assertEqual(between, [one.middle(two, three)])

    def test_the_cheapest_ways_cost_the_distance_and_go_over_the_stands_between(self):
        for board, _ in itertools.chain(models(), grown_models(6, 3)):
            stands = list(board.stands())
            table = {start.pegs: self.cheapest(board, start) for start in stands}
            for one, other in itertools.product(stands, repeat=2):
                self.assertEqual(table[one.pegs][other.pegs], one.distance(other))
                self.assertEqual(abs(other - one), one.distance(other))
                for stand in stands:
                    whole = table[one.pegs][stand.pegs] + table[stand.pegs][other.pegs]
                    self.assertIs(whole == table[one.pegs][other.pegs], stand.is_between(one, other))

    def cheapest(self, board, start):
        """The cost of a cheapest way to each stand, found turn by turn."""
        costs, waiting = {}, {start.pegs: 0}
        while waiting:
            pegs = min(waiting, key=waiting.get)
            cost = costs[pegs] = waiting.pop(pegs)
            stand = board(pegs)
            turned = [(stand.put(peg), peg) for peg in stand.free] + [(stand.take(peg), peg) for peg in stand.loose]
            for after, peg in turned:
                if after.pegs not in costs:
                    dearer = waiting.get(after.pegs, 10 ** 9)
                    waiting[after.pegs] = min(dearer, cost + board.cost_of(peg))
        return costs


if __name__ == "__main__":
    unittest.main()
