"""Between two stands: [27] to [31], and the orders that [26] and [28] speak of."""

import itertools
import math
import types
import unittest

from samples import (
    ODD, PEGS, TWELVE, caught, example, example_again, first_error, grown_models, half_read, models, strange_boards,
)

from needpegs.between import (
    count_between, count_orders, longest_chain, orders, precedence, rounds, rounds_lead, stands_between,
)
from needpegs.boards import Board
from needpegs.turns import Put, Take, Turn
from needpegs.ways import Way

GENERATORS = (orders, stands_between)
FUNCTIONS = (precedence, count_orders, count_between, rounds, longest_chain)


def pairs_of(board_models):
    """Each board with its model and all pairs of its stands."""
    for board, model in board_models:
        for one, other in itertools.product(model.stands(), repeat=2):
            yield board, model, one, other


def small():
    return pairs_of(itertools.chain(models(), grown_models(5, 4)))


def difference_order(model, one, other):
    """The pairs of the difference order, from [7] alone."""
    into, out = set(other) - set(one), set(one) - set(other)
    pairs = {(y, x) for x in into for y in into if model.needs(x, y)}
    pairs |= {(x, y) for x in out for y in out if model.needs(x, y)}
    pairs |= {(x, y) for x in out for y in into if model.clash(x, y)}
    while True:
        more = {(x, z) for x, y in pairs for w, z in pairs if w == y} - pairs
        if not more:
            return pairs
        pairs |= more


def sorted_pairs(model, pairs):
    return tuple(sorted(pairs, key=lambda pair: [model.pegs.index(peg) for peg in pair]))


def ways_found(board, stands, one, other):
    """All ways that cost the distance, found turn by turn over the stands."""
    if one == other:
        return [()]
    found = []
    for after in stands:
        changed = set(after) ^ set(one)
        left = sum(board.cost_of(peg) for peg in set(after) ^ set(other))
        if len(changed) == 1:
            peg = changed.pop()
            # A way that costs no more than the distance comes nearer with each turn.
            if left + board.cost_of(peg) == sum(board.cost_of(peg) for peg in set(one) ^ set(other)):
                turn = f"+{peg}" if peg in after else f"-{peg}"
                found += [(turn,) + way for way in ways_found(board, stands, after, other)]
    return found


def subsets(pegs):
    return [set(some) for many in range(len(pegs) + 1) for some in itertools.combinations(pegs, many)]


def is_round(model, start, turns):
    """Whether turns are a round from a stand: in every order, so what is done at any time is any part of them."""
    pegs = [turn.peg for turn in turns]
    if not turns or len(set(pegs)) < len(pegs) or not set(pegs) <= set(model.pegs):
        return False
    if any((turn.sign == "+") == (turn.peg in start) for turn in turns):
        return False
    return all(model.is_stand(model.ordered(set(start) ^ done)) for done in subsets(pegs))


def leads(model, one, other, value):
    """Whether a value is a row of rounds from a stand to another, from [8] and [31] alone."""
    if type(value) is not tuple or any(type(row) is not tuple for row in value):
        return False
    if any(type(turn) not in (Put, Take) for row in value for turn in row):
        return False
    place = set(one)
    for row in value:
        if not is_round(model, place, row):
            return False
        place ^= {turn.peg for turn in row}
    return place == set(other)


class OrderTest(unittest.TestCase):
    def test_example(self):
        a, b = example()(("a", "b")), example()(("a", "c", "d"))
        self.assertEqual(precedence(a, b), (("b", "c"),))
        self.assertEqual(precedence(b, a), (("c", "b"),))

    def test_all_pairs_of_stands(self):
        for board, model, one, other in pairs_of(itertools.chain(models(), grown_models(6, 3))):
            expected = sorted_pairs(model, difference_order(model, one, other))
            self.assertEqual(precedence(board(one), board(other)), expected)
            turned = sorted_pairs(model, [(y, x) for x, y in expected])
            self.assertEqual(precedence(board(other), board(one)), turned)

    def test_a_stand_and_itself(self):
        for board, model in models():
            for pegs in model.stands():
                self.assertEqual(precedence(board(pegs), board(pegs)), ())

    def test_a_chain_of_twelve(self):
        board = Board(TWELVE[::-1], needs=tuple(zip(TWELVE[1:], TWELVE)))
        pairs = [(x, y) for x, y in itertools.permutations(TWELVE[::-1], 2)]
        whole = board(TWELVE)
        self.assertEqual(precedence(board.empty, whole), tuple(pair for pair in pairs if pair[0] < pair[1]))
        self.assertEqual(precedence(whole, board.empty), tuple(pair for pair in pairs if pair[0] > pair[1]))

    def test_boards_with_the_same_pegs_asked_in_turn(self):
        boards = [(Board(PEGS), ()), (Board(PEGS, needs=(("b", "a"),)), (("a", "b"),)),
                  (Board(PEGS, needs=(("a", "b"),)), (("b", "a"),)),
                  (Board(PEGS, needs=(("b", "a"), ("c", "b"))), (("a", "b"), ("a", "c"), ("b", "c")))]
        for (board, expected), _ in itertools.product(boards, repeat=2):
            self.assertEqual(precedence(board.empty, board(("a", "b", "c"))), expected)
        bars = ((), (("a", "b"),), (("a", "c"),), (("a", "b"), ("a", "c")))
        for chosen, _ in itertools.product(bars, repeat=2):
            board = Board(("b", "a", "c"), bars=chosen)
            expected = (("a", "b"),) if ("a", "b") in chosen else ()
            self.assertEqual(precedence(board(("a",)), board(("b",))), expected)


class OrdersTest(unittest.TestCase):
    def test_example(self):
        a, b = example()(("a", "b")), example()(("a", "c", "d"))
        found = sorted(repr(way) for way in orders(a, b))
        self.assertEqual(found, ["Way(+d -b +c)", "Way(-b +c +d)", "Way(-b +d +c)"])
        self.assertEqual(count_orders(a, b), 3)

    def test_a_search_turn_by_turn(self):
        for board, model, one, other in small():
            a, b = board(one), board(other)
            found = [tuple(repr(turn) for turn in way.turns) for way in orders(a, b)]
            expected = ways_found(board, model.stands(), one, other)
            self.assertEqual(sorted(found), sorted(expected))
            self.assertEqual(len(set(found)), len(found))
            self.assertEqual(count_orders(a, b), len(expected))
            self.assertIn(tuple(repr(turn) for turn in (b - a).turns), expected)

    def test_each_is_a_cheapest_way(self):
        for board, model, one, other in pairs_of(grown_models(5, 2)):
            a, b = board(one), board(other)
            for way in orders(a, b):
                self.assertIsInstance(way, Way)
                self.assertEqual((way.board, a + way, abs(way)), (board, b, a.distance(b)))

    def test_the_orders_respect_the_difference_order(self):
        for board, model, one, other in pairs_of(grown_models(5, 2)):
            pairs = difference_order(model, one, other)
            rows = itertools.permutations(set(one) ^ set(other))
            right = {row for row in rows if all(row.index(x) < row.index(y) for x, y in pairs)}
            found = {tuple(turn.peg for turn in way.turns) for way in orders(board(one), board(other))}
            self.assertEqual(found, right)

    def test_a_stand_and_itself(self):
        for board, model in models():
            for pegs in model.stands():
                self.assertEqual(list(orders(board(pegs), board(pegs))), [Way(board)])
                self.assertEqual(count_orders(board(pegs), board(pegs)), 1)

    def test_twelve_free_pegs(self):
        board = Board(TWELVE)
        whole = board(TWELVE)
        self.assertEqual(count_orders(board.empty, whole), math.factorial(12))
        self.assertEqual(count_orders(whole, board.empty), math.factorial(12))
        self.assertEqual(count_orders(board(TWELVE[:6]), board(TWELVE[6:])), math.factorial(12))
        few = list(itertools.islice(orders(board.empty, whole), 1000))
        self.assertEqual(len({repr(way) for way in few}), 1000)
        self.assertTrue(all(board.empty + way == whole for way in few))

    def test_six_pegs_against_six(self):
        bars = tuple(zip(TWELVE[:6], TWELVE[6:]))
        board = Board(TWELVE, bars=bars)
        self.assertEqual(count_orders(board(TWELVE[:6]), board(TWELVE[6:])), math.factorial(12) // 2 ** 6)
        chains = Board(TWELVE, needs=tuple(zip(TWELVE[1:6], TWELVE)) + tuple(zip(TWELVE[7:], TWELVE[6:])))
        self.assertEqual(count_orders(chains.empty, chains(TWELVE)), math.comb(12, 6))
        self.assertEqual(count_orders(chains(TWELVE[:6]), chains(TWELVE[6:])), math.comb(12, 6))

    def test_left_half_read_and_two_at_once(self):
        a, b = example()(("a", "b")), example()(("a", "c", "d"))
        self.assertIsInstance(orders(a, b), types.GeneratorType)
        self.assertEqual(len(half_read(self, lambda: orders(a, b))), 3)
        board = Board(PEGS)
        self.assertEqual(len(half_read(self, lambda: orders(board.empty, board(PEGS)))), 24)


class StandsBetweenTest(unittest.TestCase):
    def test_example(self):
        a, b = example()(("a", "b")), example()(("a", "c", "d"))
        expected = [("a",), ("a", "b"), ("a", "c"), ("a", "d"), ("a", "b", "d"), ("a", "c", "d")]
        self.assertEqual([stand.pegs for stand in stands_between(a, b)], expected)
        self.assertEqual(count_between(a, b), 6)

    def test_all_stands_asked_whether_they_are_between(self):
        for board, model, one, other in pairs_of(itertools.chain(models(), grown_models(6, 4))):
            a, b = board(one), board(other)
            expected = [stand for stand in board.stands() if stand.is_between(a, b)]
            self.assertEqual(list(stands_between(a, b)), expected)
            self.assertEqual(count_between(a, b), len(expected))

    def test_they_are_those_on_the_cheapest_ways(self):
        for board, model, one, other in pairs_of(grown_models(5, 2)):
            a, b = board(one), board(other)
            on_ways = {stand.pegs for way in orders(a, b) for stand in way.stands(a)}
            self.assertEqual({stand.pegs for stand in stands_between(a, b)}, on_ways)

    def test_twelve_pegs(self):
        board = Board(TWELVE)
        self.assertEqual(count_between(board.empty, board(TWELVE)), 4096)
        self.assertEqual(list(stands_between(board.empty, board(TWELVE))), list(board.stands()))
        self.assertEqual(count_between(board(TWELVE[:6]), board(TWELVE[3:])), 2 ** 9)

    def test_left_half_read_and_two_at_once(self):
        a, b = example()(("a", "b")), example()(("a", "c", "d"))
        self.assertIsInstance(stands_between(a, b), types.GeneratorType)
        half_read(self, lambda: stands_between(a, b))


class RoundsTest(unittest.TestCase):
    def test_example(self):
        a, b = example()(("a", "b")), example()(("a", "c", "d"))
        found = [[repr(turn) for turn in row] for row in rounds(a, b)]
        self.assertEqual((found, longest_chain(a, b)), ([["-b", "+d"], ["+c"]], ("b", "c")))

    def chain_length(self, pairs, peg):
        """The number of other pegs in the longest chain that ends with a peg."""
        return max([self.chain_length(pairs, x) + 1 for x, y in pairs if y == peg], default=0)

    def test_each_peg_in_the_round_of_its_longest_chain(self):
        for board, model, one, other in pairs_of(itertools.chain(models(), grown_models(6, 3))):
            pairs = difference_order(model, one, other)
            expected = {}
            for peg in model.ordered(set(one) ^ set(other)):
                turn = Put(peg) if peg in other else Take(peg)
                expected.setdefault(self.chain_length(pairs, peg), []).append(turn)
            found = rounds(board(one), board(other))
            self.assertEqual(found, tuple(tuple(expected[at]) for at in range(len(expected))))
            self.assertTrue(type(found) is tuple and all(type(row) is tuple for row in found))
            self.check_chain(board, model, one, other, pairs, len(expected))

    def check_chain(self, board, model, one, other, pairs, many):
        chain = longest_chain(board(one), board(other))
        self.assertIsInstance(chain, tuple)
        self.assertEqual(len(chain), many)
        self.assertTrue(set(chain) <= set(one) ^ set(other))
        for x, y in zip(chain, chain[1:]):
            self.assertIn((x, y), pairs)

    def test_every_order_of_each_round_is_possible_and_they_lead_there(self):
        for board, model, one, other in small():
            stand = board(one)
            for row in rounds(board(one), board(other)):
                after = {(stand + Way(board, turns)).pegs for turns in itertools.permutations(row)}
                self.assertEqual(len(after), 1)
                stand = board(after.pop())
            self.assertEqual(stand.pegs, other)

    def test_as_few_as_possible(self):
        for board, model in itertools.chain(models(), grown_models(5, 4)):
            stands = model.stands()
            near = {
                one: [other for other in stands if one != other and self.one_round(model, one, other)] for one in stands
            }
            for one in stands:
                many, seen, last = 0, {one}, [one]
                while last:
                    for other in last:
                        self.assertEqual(len(rounds(board(one), board(other))), many)
                        self.assertEqual(len(longest_chain(board(one), board(other))), many)
                    last = sorted({after for other in last for after in near[other]} - seen)
                    seen |= set(last)
                    many += 1
                self.assertEqual(len(seen), len(stands))

    def one_round(self, model, one, other):
        pegs = set(one) ^ set(other)
        return is_round(model, one, [Put(peg) if peg in other else Take(peg) for peg in pegs])

    def test_a_stand_and_itself(self):
        stand = example()(("a", "b"))
        self.assertEqual((rounds(stand, stand), longest_chain(stand, stand)), ((), ()))

    def test_twelve_pegs(self):
        board = Board(TWELVE, needs=tuple(zip(TWELVE[1:], TWELVE)))
        self.assertEqual(rounds(board.empty, board(TWELVE)), tuple((Put(peg),) for peg in TWELVE))
        self.assertEqual(longest_chain(board(TWELVE), board.empty), TWELVE[::-1])
        board = Board(TWELVE[::-1])
        self.assertEqual(rounds(board.empty, board(TWELVE)), (tuple(Put(peg) for peg in TWELVE[::-1]),))


class RoundsLeadTest(unittest.TestCase):
    def check(self, board, model, one, other, value):
        found = rounds_lead(board(one), board(other), value)
        self.assertIs(found, leads(model, one, other, value), (one, other, value))
        return found

    def changed(self, rows):
        """Rows of rounds that are joined, split, exchanged, left out, or otherwise almost those."""
        yield from (rows[:at] + (rows[at] + rows[at + 1],) + rows[at + 2:] for at in range(len(rows) - 1))
        yield from (rows[:at] + (rows[at + 1], rows[at]) + rows[at + 2:] for at in range(len(rows) - 1))
        for at, row in enumerate(rows):
            before, after = rows[:at], rows[at + 1:]
            yield before + after
            yield before + (row, row) + after
            yield before + ((),) + rows[at:]
            yield before + (row + row[:1],) + after
            yield before + (row[::-1],) + after
            yield before + (row + (-row[0],),) + after
            yield before + (row + (Put("q"),),) + after
            yield before + (row, (Put("q"),), (Take("q"),)) + after
            yield before + (tuple(-turn for turn in row),) + after
            yield before + (row, tuple(-turn for turn in row), row) + after
            yield before + (list(row),) + after
            yield before + (row[0],) + after
            yield before + (tuple(repr(turn) for turn in row),) + after
            yield before + (row + (None,),) + after
            yield from (before + (row[:to], row[to:]) + after for to in range(1, len(row)))
        yield rows + ((),)
        yield list(rows)

    def test_rows_that_are_almost_right(self):
        found = []
        for board, model, one, other in small():
            rows = rounds(board(one), board(other))
            self.assertTrue(self.check(board, model, one, other, rows))
            found += [self.check(board, model, one, other, value) for value in self.changed(rows)]
        self.assertGreater(found.count(True), 500)
        self.assertGreater(found.count(False), 500)

    def test_all_short_rows(self):
        board, model = next((board, model) for board, model in models() if board.needs("z", "y") and board.clash("x", "y"))
        turns = [kind(peg) for kind in (Put, Take) for peg in model.pegs]
        short = [row for many in range(4) for row in itertools.product(turns, repeat=many)]
        for one, other in itertools.product(model.stands(), repeat=2):
            self.check(board, model, one, other, ())
            for row in short:
                self.check(board, model, one, other, (row,))
                self.check(board, model, one, other, tuple((turn,) for turn in row))
                self.check(board, model, one, other, (row[:1], row[1:]))

    def test_turns_there_and_back(self):
        board = example()
        a, b = board(("a", "b")), board(("a", "c", "d"))
        there = rounds(a, b)
        back = rounds(b, a)
        self.assertIs(rounds_lead(a, a, there + back), True)
        self.assertIs(rounds_lead(a, b, there + back + there), True)
        self.assertIs(rounds_lead(a, b, there + back), False)
        self.assertIs(rounds_lead(a, b, (there[0] + there[1],)), False)
        self.assertIs(rounds_lead(a, b, ((Take("b"),), (Put("c"), Put("d")))), True)
        self.assertIs(rounds_lead(a, b, ((Take("b"), Put("c")), (Put("d"),))), False)
        self.assertIs(rounds_lead(a, b, ((Put("d"),), (Take("d"), Take("b")), (Put("c"), Put("d")))), True)

    def test_what_a_round_may_not_mix(self):
        board = Board(("a", "b", "c"), needs=(("b", "a"),), bars=(("b", "c"),))
        for one, other, row in (
            (("a",), ("b",), (Put("b"), Take("a"))), ((), ("a", "b"), (Put("a"), Put("b"))),
            (("a", "b"), (), (Take("a"), Take("b"))), (("a",), ("a", "b", "c"), (Put("b"), Put("c"))),
            (("a", "c"), ("a", "b"), (Put("b"), Take("c"))), (("a", "b"), ("a", "c"), (Put("c"), Take("b"))),
        ):
            for turns in (row, row[::-1]):
                after = board(other) if caught(board, other) is None else board.empty
                self.assertIs(rounds_lead(board(one), after, (turns,)), False)

    def test_values_of_any_kind(self):
        board = example()
        a, b = board(("a", "b")), board(("a", "c", "d"))
        right = rounds(a, b)
        odd = ODD + (Put("d"), Take("b"), Put, Turn, (Put,), ((Put,),), (Put("d"),), [Put("d")], ([Put("d")],), "-b +d")
        for value in odd:
            self.assertIs(rounds_lead(a, b, value), False)
            self.assertIs(rounds_lead(a, b, right + (value,)), False)
            self.assertIs(rounds_lead(a, b, (value,) + right), False)
            self.assertIs(rounds_lead(a, b, (right[0] + (value,), right[1])), False)
            self.assertIs(rounds_lead(a, a, value), value == ())

    def test_names_that_are_no_peg(self):
        board = example()
        for peg in ("e", "q", "ab"):
            for row in ((Put(peg),), (Take(peg),), (Put("a"), Put(peg)), (Put(peg), Take(peg))):
                self.assertIs(rounds_lead(board.empty, board.empty, (row, (Take(peg),))), False)
                self.assertIs(rounds_lead(board.empty, board(("a",)), (row,)), False)

    def test_a_row_of_many_rounds(self):
        board = example()
        rows = ((Put("a"),), (Take("a"),)) * 60
        self.assertIs(rounds_lead(board.empty, board.empty, rows), True)
        self.assertIs(rounds_lead(board.empty, board.empty, rows[:-1]), False)


class BoardsTest(unittest.TestCase):
    def test_no_match_of_functions(self):
        for strange in strange_boards():
            for one, other in ((example().empty, strange.empty), (example()(("a", "b")), strange(("a",)))):
                for pair in ((one, other), (other, one)):
                    for call in FUNCTIONS:
                        self.assertEqual(caught(call, *pair), ("NoMatch", "board"))
                    for value in ((), None, [], ((Put("a"),),)):
                        self.assertEqual(caught(rounds_lead, *pair, value), ("NoMatch", "board"))

    def test_no_match_of_generators(self):
        for strange in strange_boards():
            for pair in ((example().empty, strange.empty), (strange(("a",)), example()(("a", "b")))):
                for generator in GENERATORS:
                    self.assertEqual(first_error(lambda: generator(*pair)), ("NoMatch", "board"))

    def test_an_equal_board_made_anew(self):
        one, same, other = example()(("a", "b")), example()(("a", "c", "d")), example_again()(("a", "c", "d"))
        for call in FUNCTIONS:
            self.assertEqual(call(one, other), call(one, same))
            self.assertEqual(call(other, one), call(same, one))
        for generator in GENERATORS:
            self.assertEqual(list(generator(one, other)), list(generator(one, same)))
        self.assertIs(rounds_lead(one, other, rounds(one, same)), True)

    def test_keywords(self):
        a, b = example()(("a", "b")), example()(("a", "c", "d"))
        for call in FUNCTIONS:
            self.assertEqual(call(b=b, a=a), call(a, b))
        for generator in GENERATORS:
            self.assertEqual(list(generator(b=b, a=a)), list(generator(a, b)))
        self.assertIs(rounds_lead(value=rounds(a, b), b=b, a=a), True)

    def test_arguments_stay(self):
        a, b = example()(("a", "b")), example()(("a", "c", "d"))
        for call in FUNCTIONS + GENERATORS:
            list(call(a, b)) if call in GENERATORS else call(a, b)
        value = (list(rounds(a, b)[0]), [])
        rounds_lead(a, b, value)
        self.assertEqual((a, b), (example()(("a", "b")), example()(("a", "c", "d"))))
        self.assertEqual(value, ([Take("b"), Put("d")], []))


if __name__ == "__main__":
    unittest.main()
