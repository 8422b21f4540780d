"""Crowds: [37] to [39]."""

import itertools
import operator
import types
import unittest

from samples import (
    NEEDS, PEGS, Model, caught, example, example_again, first_error, grown, grown_models, half_read, models, numbers,
    strange_boards,
)

from needpegs.boards import Board
from needpegs.crowds import Crowd
from needpegs.wishes import Wish

NAMES = ("x", "b", "abcdef", "a", "w", "zz", "c", "u")


def crowd_of(board, rows):
    """A crowd of walkers that are told by name, pegs and load."""
    crowd = Crowd(board)
    for name, pegs, load in rows:
        crowd[name] = board(pegs)
        crowd.set_load(name, load)
    return crowd


def some_rows(model, seed, many):
    """Disordered walkers on a board; some loads are equal, some are as large as all others."""
    draw, stands = numbers(seed), model.stands()
    loads = ((1, 1, 1), (1, 2, 3), (5, 5, 10), (1000, 999, 1))[next(draw) % 4]
    return [(NAMES[at], stands[next(draw) % len(stands)], loads[next(draw) % 3]) for at in range(many)]


def rich():
    """Boards with models and rows of walkers."""
    for seed, (board, model) in enumerate(itertools.chain(models(), grown_models(6, 4))):
        for many in range(9 if seed % 5 == 0 else 4):
            yield board, model, some_rows(model, seed, many)


def total_of(board, rows, pegs):
    """The total of a stand, from [10] alone."""
    return sum(load * sum(board.cost_of(peg) for peg in set(at) ^ set(pegs)) for _, at, load in rows)


def told(crowd):
    return [(name, crowd[name].pegs, crowd.load(name)) for name in crowd.names]


def full():
    """The example with eight walkers."""
    return crowd_of(example(), [(name, ("a",), 1) for name in NAMES])


class ItemsTest(unittest.TestCase):
    def test_added_moved_dropped_and_added_again(self):
        board, crowd = example(), Crowd(example())
        self.assertEqual((len(crowd), crowd.names, crowd.whole), (0, (), 0))
        crowd["x"], crowd["b"] = board(("a", "b")), board.empty
        self.assertEqual(told(crowd), [("x", ("a", "b"), 1), ("b", (), 1)])
        crowd.set_load("x", 7)
        crowd["x"] = board(("d",))
        self.assertEqual(told(crowd), [("x", ("d",), 7), ("b", (), 1)])
        crowd["a"] = board(("a",))
        crowd.drop("x")
        self.assertEqual((told(crowd), crowd.whole), ([("b", (), 1), ("a", ("a",), 1)], 2))
        crowd["x"] = board(("a",))
        self.assertEqual(told(crowd), [("b", (), 1), ("a", ("a",), 1), ("x", ("a",), 1)])
        self.assertEqual((len(crowd), crowd.whole), (3, 3))

    def test_the_stand_of_a_walker(self):
        crowd = crowd_of(example(), [("x", ("a",), 3)])
        self.assertEqual(crowd["x"], example()(("a",)))
        for name in ("y", "", "X", "abcdefg", "a"):
            self.assertEqual(caught(operator.getitem, crowd, name), ("NoWalker", name))

    def test_who_is_there(self):
        crowd = crowd_of(example(), [("x", ("a",), 3), ("b", (), 1)])
        self.assertEqual([name in crowd for name in ("x", "b", "a", "", "X", "xb")], [True, True] + [False] * 4)
        crowd.drop("b")
        self.assertIs("b" in crowd, False)

    def test_no_iteration(self):
        for crowd in (Crowd(example()), full()):
            with self.assertRaises(TypeError):
                iter(crowd)
            with self.assertRaises(TypeError):
                list(crowd)

    def check_refused(self, crowd, name, stand, error):
        before = told(crowd)
        self.assertEqual(caught(operator.setitem, crowd, name, stand), error)
        self.assertEqual(told(crowd), before)

    def test_errors_of_moving_in_their_order(self):
        strange, home = strange_boards()[0].empty, example()(("d",))
        for crowd in (Crowd(example()), full()):
            for name in ("x", "q", "", "A", "abcdefg", "a b"):
                self.check_refused(crowd, name, strange, ("NoMatch", "board"))
        for crowd in (Crowd(example()), full()):
            for name in ("", "A", "abcdefg", "a b", "a1", "+a", "x\n"):
                self.check_refused(crowd, name, home, ("NoDeed", "name"))
        self.check_refused(full(), "q", home, ("NoDeed", "full"))
        self.check_refused(full(), "y", strange, ("NoMatch", "board"))

    def test_eight_walkers_and_a_ninth(self):
        crowd = full()
        self.assertEqual((len(crowd), crowd.names, crowd.whole), (8, NAMES, 8))
        crowd["w"] = example()(("d",))
        self.assertEqual((crowd["w"].pegs, crowd.names), (("d",), NAMES))
        crowd.drop("x")
        crowd["q"] = example().empty
        self.assertEqual(crowd.names, NAMES[1:] + ("q",))
        self.check_refused(crowd, "x", example().empty, ("NoDeed", "full"))

    def test_an_equal_board_made_anew(self):
        crowd = Crowd(example())
        crowd["x"] = example_again()(("a",))
        self.assertEqual((crowd["x"], crowd.total(example_again().empty)), (example()(("a",)), 1))


class LoadTest(unittest.TestCase):
    def test_loads(self):
        crowd = crowd_of(example(), [("x", ("a",), 3), ("b", (), 1)])
        for load in (1, 1000, 2):
            self.assertIsNone(crowd.set_load("x", load))
            self.assertEqual((crowd.load("x"), crowd.load("b"), crowd.whole, crowd.names), (load, 1, load + 1, ("x", "b")))

    def test_errors_in_their_order(self):
        crowd = crowd_of(example(), [("x", ("a",), 3)])
        for load in (0, 1, 1000, 1001):
            self.assertEqual(caught(crowd.set_load, "y", load), ("NoWalker", "y"))
        for load in (0, 1001, -1, 10 ** 30):
            self.assertEqual(caught(crowd.set_load, "x", load), ("NoDeed", "load"))
        self.assertEqual(caught(crowd.load, "y"), ("NoWalker", "y"))
        self.assertEqual(caught(crowd.drop, "y"), ("NoWalker", "y"))
        self.assertEqual(told(crowd), [("x", ("a",), 3)])

    def test_drop(self):
        crowd = full()
        for name in NAMES[::-1]:
            self.assertIsNone(crowd.drop(name))
            self.assertEqual(caught(crowd.drop, name), ("NoWalker", name))
            self.assertEqual(caught(crowd.load, name), ("NoWalker", name))
        self.assertEqual((len(crowd), crowd.names, crowd.whole), (0, (), 0))

    def test_a_load_goes_with_its_walker(self):
        crowd = crowd_of(example(), [("x", ("a",), 9)])
        crowd.drop("x")
        crowd["x"] = example()(("a",))
        self.assertEqual(crowd.load("x"), 1)


class SumTest(unittest.TestCase):
    def test_carried_and_total(self):
        for board, model, rows in rich():
            crowd = crowd_of(board, rows)
            self.assertEqual(crowd.whole, sum(load for _, _, load in rows))
            for peg in model.pegs:
                self.assertEqual(crowd.carried(peg), sum(load for _, pegs, load in rows if peg in pegs))
            for pegs in model.stands():
                self.assertEqual(crowd.total(board(pegs)), total_of(board, rows, pegs))

    def test_errors(self):
        for crowd in (Crowd(example()), full()):
            for peg in ("e", "", "ab"):
                self.assertEqual(caught(crowd.carried, peg), ("NoPeg", peg))
            for strange in strange_boards():
                self.assertEqual(caught(crowd.total, strange.empty), ("NoMatch", "board"))

    def test_great_loads(self):
        board = Board(PEGS, costs=(1000,) * 4)
        crowd = crowd_of(board, [(name, PEGS, 1000) for name in NAMES])
        self.assertEqual((crowd.total(board.empty), crowd.whole, crowd.bound()), (32000000, 8000, 0))


class BestTest(unittest.TestCase):
    def test_example(self):
        crowd = crowd_of(example(), [("x", ("a", "b"), 1), ("y", ("a", "c", "d"), 2)])
        found = (crowd.best().pegs, crowd.bound(), crowd.total(example().empty), crowd.best(wish=Wish((), ("c",))).pegs)
        self.assertEqual(found, (("a", "c", "d"), 6, 13, ("a", "d")))

    def check(self, board, model, rows, wish):
        """All four answers, compared with the totals of all stands that meet the wish."""
        crowd = crowd_of(board, rows)
        named = {} if wish is None else {"wish": wish}
        asked = Wish() if wish is None else wish
        right = [pegs for pegs in model.stands() if model.meets(pegs, asked.inside, asked.outside)]
        if not right:
            return self.check_unmet(board, crowd, wish)
        totals = {pegs: total_of(board, rows, pegs) for pegs in right}
        least = min(totals.values())
        best = [pegs for pegs in right if totals[pegs] == least]
        self.assertIn(crowd.best(**named).pegs, best)
        self.assertEqual(crowd.bound(**named), least)
        self.assertEqual([stand.pegs for stand in crowd.all_best(**named)], best)
        for pegs in model.stands():
            self.assertIs(crowd.is_best(board(pegs), **named), pegs in best)
        self.assertEqual(told(crowd), rows)

    def check_unmet(self, board, crowd, wish):
        calls = (
            lambda: crowd.best(wish=wish), lambda: crowd.bound(wish=wish),
            lambda: crowd.is_best(board.empty, wish=wish), lambda: next(crowd.all_best(wish=wish)),
        )
        for call in calls:
            found = caught(call)
            self.assertEqual(found[0], "Unmet")
            self.assertIs(wish.obstacle_holds(board, found[1:]), True)

    def test_without_a_wish(self):
        for board, model, rows in rich():
            self.check(board, model, rows, None)

    def test_with_a_wish(self):
        draw = numbers(39)
        for board, model, rows in rich():
            for _ in range(4):
                sides = [[peg for peg in model.pegs if next(draw) % 4 == 0] for _ in range(2)]
                self.check(board, model, rows, Wish(*sides))
            self.check(board, model, rows, Wish())

    def test_the_very_best_stand(self):
        for board, model, rows in rich():
            whole = sum(load for _, _, load in rows)
            carried = {peg: sum(load for _, pegs, load in rows if peg in pegs) for peg in model.pegs}
            heavy = tuple(peg for peg in model.pegs if 2 * carried[peg] > whole)
            crowd = crowd_of(board, rows)
            self.assertEqual(crowd.best().pegs, heavy)
            for peg in model.pegs:
                self.assertEqual(crowd.best(wish=Wish((peg,))), Wish((peg,))(board(heavy)))
                self.assertEqual(crowd.best(wish=Wish((), (peg,))), Wish((), (peg,))(board(heavy)))

    def test_best_exactly_with_the_heavy_and_without_the_light_pegs(self):
        for board, model, rows in rich():
            crowd = crowd_of(board, rows)
            heavy = [peg for peg in model.pegs if 2 * crowd.carried(peg) > crowd.whole]
            light = [peg for peg in model.pegs if 2 * crowd.carried(peg) < crowd.whole]
            for pegs in model.stands():
                self.assertIs(crowd.is_best(board(pegs)), set(heavy) <= set(pegs) and not set(light) & set(pegs))

    def test_no_walkers(self):
        for board, model in itertools.chain(models(), grown_models(5, 2)):
            crowd = Crowd(board)
            self.assertEqual((crowd.best(), crowd.bound()), (board.empty, 0))
            self.assertEqual(list(crowd.all_best()), list(board.stands()))
            self.assertTrue(all(crowd.is_best(stand) for stand in board.stands()))
            for peg in model.pegs:
                wish = Wish((peg,))
                self.assertEqual((crowd.best(wish=wish), crowd.bound(wish=wish)), (wish(board.empty), 0))
                self.assertEqual(list(crowd.all_best(wish=wish)), list(wish.stands(board)))

    def test_equal_loads(self):
        board = Board(PEGS)
        crowd = crowd_of(board, [("x", ("a", "b"), 4), ("y", ("b", "c"), 4)])
        self.assertEqual((crowd.best().pegs, crowd.bound()), (("b",), 8))
        self.assertEqual([stand.pegs for stand in crowd.all_best()], [("b",), ("a", "b"), ("b", "c"), ("a", "b", "c")])

    def test_errors_in_their_order(self):
        strange, home = strange_boards()[0].empty, example().empty
        no_peg, unmet = Wish(("b", "c", "z"), ("y",)), Wish(("b", "c"))
        for crowd in (Crowd(example()), full()):
            for wish in (None, no_peg, unmet, Wish()):
                self.assertEqual(caught(crowd.is_best, strange, wish=wish), ("NoMatch", "board"))
            self.assertEqual(caught(crowd.is_best, home, wish=no_peg), ("NoPeg", "z"))
            self.assertEqual(caught(crowd.best, wish=no_peg), ("NoPeg", "z"))
            self.assertEqual(caught(crowd.bound, wish=no_peg), ("NoPeg", "z"))
            self.assertEqual(first_error(lambda: crowd.all_best(wish=no_peg)), ("NoPeg", "z"))
            self.check_unmet(example(), crowd, unmet)
            self.check_unmet(example(), crowd, Wish(("d",), ("d",)))
            self.check_unmet(example(), crowd, Wish(("b",), ("a",)))

    def test_again_behind_changes(self):
        board, model = example(), Model(PEGS, NEEDS, (("b", "c"),))
        crowd, draw, rows = Crowd(board), numbers(5), {}
        for _ in range(120):
            name, pegs, load = NAMES[next(draw) % 8], model.stands()[next(draw) % 8], next(draw) % 9 + 1
            what = next(draw) % 4
            if what == 0 and name in crowd:
                crowd.drop(name)
                del rows[name]
            elif what == 1 and name in crowd:
                crowd.set_load(name, load)
                rows[name] = (rows[name][0], load)
            else:
                crowd[name] = board(pegs)
                rows[name] = (pegs, rows.get(name, (None, 1))[1])
            told_rows = [(name, *row) for name, row in rows.items()]
            self.assertEqual(told(crowd), told_rows)
            totals = {pegs: total_of(board, told_rows, pegs) for pegs in model.stands()}
            best = [pegs for pegs in totals if totals[pegs] == min(totals.values())]
            self.assertEqual([stand.pegs for stand in crowd.all_best()], best)
            self.assertEqual(crowd.bound(), min(totals.values()))
            self.assertIn(crowd.best().pegs, best)

    def test_generators(self):
        board = Board(PEGS)
        crowd = crowd_of(board, [("x", ("a", "b"), 4), ("y", ("b", "c"), 4)])
        self.assertIsInstance(crowd.all_best(), types.GeneratorType)
        self.assertEqual(len(half_read(self, lambda: crowd.all_best())), 4)
        self.assertEqual(len(half_read(self, lambda: crowd.all_best(wish=Wish(("d",))))), 4)

    def test_two_crowds_at_once(self):
        board = Board(PEGS)
        one, other = (crowd_of(board, [("x", pegs, 1), ("y", (), 1)]) for pegs in (("a",), ("b", "c")))
        found = [(s.pegs, t.pegs) for s, t in zip(one.all_best(), other.all_best())]
        self.assertEqual(found, [((), ()), (("a",), ("b",))])

    def test_a_board_in_any_order(self):
        pegs, needs, bars, costs = grown(8, 1)
        board, model = Board(pegs, needs=needs, bars=bars, costs=costs), Model(pegs, needs, bars)
        for seed in range(6):
            self.check(board, model, some_rows(model, seed, 5), None)
            self.check(board, model, some_rows(model, seed, 8), Wish((pegs[seed],), (pegs[7 - seed],)))


class KeywordTest(unittest.TestCase):
    def test_names(self):
        crowd = Crowd(board=example())
        crowd["x"] = example()(("a",))
        crowd.set_load(load=5, name="x")
        self.assertEqual((crowd.load(name="x"), crowd.carried(peg="a"), crowd.total(stand=example().empty)), (5, 5, 5))
        self.assertIs(crowd.is_best(wish=Wish(("a",)), stand=example()(("a",))), True)
        self.assertIs(crowd.is_best(stand=example().empty), False)
        self.assertIsNone(crowd.drop(name="x"))

    def test_the_wish_goes_by_its_name_alone(self):
        crowd = full()
        for call in (crowd.best, crowd.bound, crowd.all_best):
            with self.assertRaises(TypeError):
                call(Wish())
        with self.assertRaises(TypeError):
            crowd.is_best(example().empty, Wish())


if __name__ == "__main__":
    unittest.main()
