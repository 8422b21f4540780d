"""What [11] says for every board, of rounds, wishes, crowds and boards seen from a stand."""

import itertools
import unittest

from samples import example, grown_models, models, numbers
from test_crowds import crowd_of, rich
from test_wishes import some_sides

from needpegs.between import rounds, stands_between
from needpegs.derived import seen, seen_from
from needpegs.wishes import Wish, around, gap


def boards(most, seeds):
    return [board for board, _ in itertools.chain(models(), grown_models(most, seeds))]


def some_wishes(board, seed, many):
    """Disordered wishes that are possible on a board."""
    wishes = [Wish(*pair) for pair in some_sides(board.pegs, seed, many)]
    return [wish for wish in wishes if wish.obstacle(board) is None]


class WishTest(unittest.TestCase):
    def test_the_nearest_stand_is_between_the_stand_and_all_that_meet_the_wish(self):
        for seed, board in enumerate(boards(6, 3)):
            stands = list(board.stands())
            for wish in some_wishes(board, seed, 6):
                right = list(wish.stands(board))
                for stand in stands:
                    self.assertTrue(all(wish(stand).is_between(stand, other) for other in right))

    def test_wishes_that_can_be_met_in_pairs_can_be_met_together(self):
        found = []
        for seed, board in enumerate(boards(6, 3)):
            draw, wishes = numbers(seed), some_wishes(board, seed, 12)
            for _ in range(6 if wishes else 0):
                some = [wishes[next(draw) % len(wishes)] for _ in range(3)]
                pairs = [(one & other).obstacle(board) is None for one, other in itertools.combinations(some, 2)]
                whole = some[0] & some[1] & some[2]
                self.assertIs(whole.obstacle(board) is None, all(pairs))
                found.append(all(pairs))
                if all(pairs):
                    self.check_any_order(board, some, whole)
        self.assertGreater(found.count(True), 50)
        self.assertGreater(found.count(False), 50)

    def check_any_order(self, board, some, whole):
        for stand, row in itertools.product(board.stands(), itertools.permutations(some)):
            for wish in row:
                stand = wish(stand)
            self.assertTrue(stand in whole and all(stand in wish for wish in some))

    def test_the_smallest_set_with_all_stands_between(self):
        for seed, board in enumerate(boards(5, 3)):
            draw, stands = numbers(seed), list(board.stands())
            for many in (1, 2, 2, 3, 4):
                some = [stands[next(draw) % len(stands)] for _ in range(many)]
                found = self.closed(some)
                self.assertEqual([stand.pegs for stand in around(some).stands(board)], found)

    def closed(self, some):
        """The pegs of the stands that are reached by adding all stands between, in the order of [17]."""
        found = {stand.pegs: stand for stand in some}
        board = some[0].board
        while True:
            pairs = itertools.combinations_with_replacement(list(found.values()), 2)
            more = {stand.pegs: stand for pair in pairs for stand in stands_between(*pair)}
            if len(more) == len(found):
                return [stand.pegs for stand in board.stands() if stand.pegs in found]
            found = more

    def test_a_nearest_pair_by_going_there_and_back(self):
        for seed, board in enumerate(boards(5, 3)):
            wishes = some_wishes(board, seed, 6)
            for one, other in itertools.product(wishes, repeat=2):
                s, t = gap(board, one, other)
                for start in one.stands(board):
                    near = other(start)
                    self.assertEqual(one(near).distance(near), s.distance(t))

    def test_a_peg_in_which_a_nearest_pair_differs_parts_all_stands(self):
        for seed, board in enumerate(boards(6, 3)):
            wishes = some_wishes(board, seed, 8)
            for one, other in itertools.product(wishes, repeat=2):
                s, t = gap(board, one, other)
                for peg in s ^ t:
                    self.assertTrue(all((peg in stand) == (peg in s) for stand in one.stands(board)))
                    self.assertTrue(all((peg in stand) == (peg in t) for stand in other.stands(board)))

    def test_an_obstacle_shows_that_a_wish_is_not_possible(self):
        for seed, board in enumerate(boards(6, 3)):
            for pair in some_sides(board.pegs, seed, 10):
                wish = Wish(*pair)
                triple = wish.obstacle(board)
                possible = any(stand in wish for stand in board.stands())
                self.assertIs(triple is None, possible)
                self.assertIs(wish.obstacle_holds(board, triple), not possible)


class CrowdTest(unittest.TestCase):
    def test_from_any_best_stand_to_a_best_one_that_meets_a_wish(self):
        for seed, (board, model, rows) in enumerate(rich()):
            crowd = crowd_of(board, rows)
            for wish in some_wishes(board, seed, 3):
                for stand in crowd.all_best():
                    self.assertIs(crowd.is_best(wish(stand), wish=wish), True)
                self.assertEqual(crowd.total(crowd.best(wish=wish)), crowd.bound(wish=wish))


class SeenTest(unittest.TestCase):
    def test_distances_and_middles_seen_from_a_stand(self):
        for board in boards(4, 3):
            stands = list(board.stands())
            for origin in stands:
                there = {stand.pegs: seen(stand, origin) for stand in stands}
                for one, other in itertools.product(stands, repeat=2):
                    self.assertEqual(there[one.pegs].distance(there[other.pegs]), one.distance(other))
                for one, two, three in itertools.product(stands[:10], repeat=3):
                    middle = there[one.pegs].middle(there[two.pegs], there[three.pegs])
                    self.assertEqual(middle, there[one.middle(two, three).pegs])

    def test_rounds_between_and_gaps_seen_from_a_stand(self):
        for board in boards(4, 2):
            stands = list(board.stands())
            for origin, one, other in itertools.product(stands[:8], repeat=3):
                s, t = seen(one, origin), seen(other, origin)
                self.assertEqual(len(rounds(s, t)), len(rounds(one, other)))
                expected = {seen(stand, origin).pegs for stand in stands_between(one, other)}
                self.assertEqual({stand.pegs for stand in stands_between(s, t)}, expected)

    def test_seen_back(self):
        for board in boards(6, 3) + [example()]:
            for origin in board.stands():
                self.assertEqual(seen_from(seen(board.empty, origin)), board)


if __name__ == "__main__":
    unittest.main()
