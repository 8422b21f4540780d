"""Families of sets: [43] and [44], and what [11] says of them."""

import itertools
import unittest

from samples import ODD, TWELVE, caught, example, grown, grown_models, models, numbers

from needpegs.boards import Board
from needpegs.errors import NoFamily
from needpegs.families import family_of, witness_holds

WORDS = ("empty", "middle", "fixed", "", "Empty", "need", "middle ", "circle")
NAMES = ("a", "b", "c")


def subsets(names):
    return [pegs for many in range(len(names) + 1) for pegs in itertools.combinations(names, many)]


def middle(one, two, three):
    return tuple(sorted(set(one) & set(two) | set(one) & set(three) | set(two) & set(three)))


def witnesses(family):
    """The word of the first reason against a family of sorted tuples and all right values, from the words of [44]."""
    if () not in family:
        return "empty", [()]
    threes = [three for three in itertools.permutations(family, 3) if middle(*three) not in family]
    if threes:
        return "middle", threes
    fixed = [(row,) for row in family if row and not any(tuple(x for x in row if x != name) in family for name in row)]
    return ("fixed", fixed) if fixed else (None, [])


def disordered(family, seed):
    """The same family in another order, with repeated sets and names, as tuples and lists."""
    draw = numbers(seed)
    rows = [list(row) + list(row[:next(draw) % 2]) for row in family + family[:next(draw) % 3]]
    rows = [sorted(row, key=lambda name: next(draw)) for row in rows]
    rows = sorted([tuple(row) if next(draw) % 2 else row for row in rows], key=lambda row: next(draw))
    return tuple(rows) if next(draw) % 2 else rows


def families_of_three():
    """All families of sets of three names."""
    rows = subsets(NAMES)
    for many in range(len(rows) + 1):
        yield from itertools.combinations(rows, many)


def families_of_four():
    """Disordered families of sets of four names, most of them full, so that each reason comes first somewhere."""
    draw = numbers(44)
    rows = subsets(NAMES + ("d",))
    for _ in range(150):
        yield tuple(row for row in rows if next(draw) % 8 > 0 and (row != () or next(draw) % 5))
    for seed in range(100):
        pegs, needs, bars, _ = grown(4, seed, "abcd")
        family = family_of(Board(sorted(pegs), needs=needs, bars=bars))
        yield tuple(row for row in family if row == () or next(draw) % 6)


class FamilyTest(unittest.TestCase):
    def test_example(self):
        expected = ((), ("a",), ("d",), ("a", "b"), ("a", "c"), ("a", "d"), ("a", "b", "d"), ("a", "c", "d"))
        self.assertEqual(family_of(example()), expected)
        self.assertEqual(family_of(board=example()), expected)

    def test_many_boards(self):
        for board, model in itertools.chain(models(), grown_models(9, 4)):
            self.assertEqual(family_of(board), tuple(model.stands()))

    def test_twelve_pegs_in_a_chain(self):
        board = Board(TWELVE, needs=tuple(zip(TWELVE[1:], TWELVE)))
        self.assertEqual(family_of(board), tuple(TWELVE[:many] for many in range(13)))

    def test_no_pegs(self):
        self.assertEqual(family_of(Board(())), ((),))


class BackTest(unittest.TestCase):
    def check_back(self, board):
        """A board of pegs in alphabetical order that cost 1 and its family lead back to each other."""
        family = family_of(board)
        self.assertEqual(Board.of_family(family), board)
        for seed in range(4):
            again = Board.of_family(disordered(family, seed))
            self.assertIsInstance(again, Board)
            self.assertEqual(again, board)
            self.assertEqual(family_of(again), family)

    def test_example(self):
        board = Board.of_family(((), ("a",), ("b", "a"), ("b",), ("c",)))
        self.assertIs(board.clash("c", "a"), True)
        self.assertEqual(board, Board(("a", "b", "c"), bars=(("a", "c"), ("b", "c"))))

    def test_many_boards(self):
        for many, seed in itertools.product(range(10), range(8)):
            pegs, needs, bars, _ = grown(many, seed)
            board = Board(sorted(pegs), needs=needs, bars=bars)
            if board.count_stands() <= 128:
                self.check_back(board)

    def test_pegs_and_costs(self):
        for board, _ in grown_models(6, 5):
            again = Board.of_family(sets=family_of(board))
            self.assertEqual(again.pegs, tuple(sorted(board.pegs)))
            self.assertEqual([again.cost_of(peg) for peg in again.pegs], [1] * len(board))
            self.assertEqual({frozenset(row) for row in family_of(again)}, {frozenset(row) for row in family_of(board)})

    def test_long_names(self):
        board = Board.of_family([["b", "ab"], [], ["b"], ["abc"]])
        self.assertEqual(board, Board(("ab", "abc", "b"), needs=(("ab", "b"),), bars=(("abc", "b"),)))

    def test_twelve_pegs(self):
        chain = tuple(zip(TWELVE[1:], TWELVE))
        boards = (
            Board(TWELVE, needs=chain), Board(TWELVE, needs=[pair[::-1] for pair in chain]),
            Board(TWELVE, bars=tuple(itertools.combinations(TWELVE, 2))), Board(TWELVE, needs=chain[:5] + chain[6:]),
        )
        for board in boards:
            self.check_back(board)

    def test_a_family_of_128_sets(self):
        cube = Board(TWELVE[:7])
        fork = Board(TWELVE, needs=tuple(zip(TWELVE[6:], TWELVE)), bars=(("a", "b"), ("c", "d"), ("e", "f")))
        self.assertEqual((cube.count_stands(), fork.count_stands()), (128, 125))
        self.check_back(cube)
        self.check_back(fork)

    def test_the_smallest_families(self):
        self.assertEqual(Board.of_family(((),)), Board(()))
        self.assertEqual(Board.of_family([[], ()]), Board(()))
        self.assertEqual(Board.of_family((("x",), ())), Board(("x",)))

    def test_arguments_stay_and_later_changes_have_no_effect(self):
        sets = [["b", "a", "a"], [], ["a"], ["a"]]
        board = Board.of_family(sets)
        self.assertEqual(sets, [["b", "a", "a"], [], ["a"], ["a"]])
        self.assertIs(witness_holds(sets, "fixed", ()), False)
        self.assertEqual(sets, [["b", "a", "a"], [], ["a"], ["a"]])
        sets[0].append("c")
        sets.clear()
        self.assertEqual(board, Board(("a", "b"), needs=(("b", "a"),)))


class ReasonTest(unittest.TestCase):
    def test_examples(self):
        self.assertEqual(caught(Board.of_family, ((), ("a", "b"))), ("NoFamily", "fixed", (("a", "b"),)))
        self.assertEqual(caught(Board.of_family, ()), ("NoFamily", "empty", ()))
        self.assertEqual(caught(Board.of_family, [["a"], ["b"]]), ("NoFamily", "empty", ()))

    def check_family(self, family, sets):
        """The error is one of the right ones, and there is none only if a board has these stands."""
        word, values = witnesses(family)
        found = caught(Board.of_family, sets)
        if word is None:
            self.assertIsNone(found)
            names = sorted({name for row in family for name in row})
            self.assertEqual(Board.of_family(sets).pegs, tuple(names))
            self.assertEqual(sorted(family_of(Board.of_family(sets))), sorted(family))
        else:
            self.assertEqual(found[:2], ("NoFamily", word))
            self.assertIn(found[2], values)
            self.assertIs(witness_holds(sets, *found[1:]), True)
        return word

    def test_several_fixed_sets(self):
        family = ((), ("a", "b"), ("c", "d"), ("a", "b", "e"), ("a", "b", "e", "f", "g"))
        self.assertEqual(self.check_family(family, family), "fixed")
        for row in family:
            self.assertIs(witness_holds(family, "fixed", (row,)), row not in ((), ("a", "b", "e")))
        self.assertIs(witness_holds(family, "fixed", family[1:3]), False)

    def test_all_families_of_three_names(self):
        found = [self.check_family(family, family) for family in families_of_three()]
        self.assertEqual(found.count("empty"), 128)
        for word in ("middle", "fixed", None):
            self.assertGreater(found.count(word), 5)

    def test_disordered_families(self):
        found = []
        for seed, family in enumerate(itertools.chain(families_of_three(), families_of_four())):
            found.append(self.check_family(family, disordered(family, seed)))
        for word in ("empty", "middle", "fixed", None):
            self.assertGreater(found.count(word), 20)

    def test_a_family_with_a_board_is_one_that_a_board_has(self):
        names = ("a", "b", "c")
        pairs = list(itertools.permutations(names, 2))
        boards = set()
        for needs in [needs for many in range(7) for needs in itertools.combinations(pairs, many)]:
            for bars in subsets(tuple(itertools.combinations(names, 2))):
                if caught(Board, names, needs=needs, bars=bars) is None:
                    boards.add(family_of(Board(names, needs=needs, bars=bars)))
        for family in families_of_three():
            if {name for row in family for name in row} == set(names):
                self.assertIs(caught(Board.of_family, family) is None, family in boards)

    def test_a_family_of_128_sets_that_lacks_one(self):
        cube = family_of(Board(TWELVE[:7]))
        for at in (1, 8, 64, 100, 126):
            family = cube[:at] + cube[at + 1:]
            with self.assertRaises(NoFamily) as context:
                Board.of_family(family)
            self.assertEqual(context.exception.word, "middle")
            self.assertNotIn(middle(*context.exception.sets), family)
            self.assertTrue(set(context.exception.sets) <= set(family))
            self.assertIs(witness_holds(family, "middle", context.exception.sets[::-1]), True)


class WitnessTest(unittest.TestCase):
    def candidates(self, family, names):
        """Values of which some may be right: all orders of all sets of the names, and more that are wrong."""
        rows = subsets(names)
        values = [(), rows[0], rows[1]] + [(row,) for row in rows] + list(itertools.combinations(rows, 2))
        values += list(itertools.permutations(rows, 3)) + [(row,) * 3 for row in rows]
        values += [rows[:4], tuple(rows[:4])]
        return values

    def test_all_values_of_families_of_three_names(self):
        for family in families_of_three():
            word, values = witnesses(family)
            for value in self.candidates(family, NAMES):
                self.assertIs(witness_holds(family, "middle", value), word == "middle" and value in values)
            for value in self.candidates(family, NAMES)[:60]:
                for other in WORDS:
                    expected = word == other and value in values
                    self.assertIs(witness_holds(family, other, value), expected, (family, other, value))

    def test_disordered_families(self):
        for seed, family in enumerate(families_of_four()):
            sets = disordered(family, seed)
            word, values = witnesses(family)
            for value in values[:40] + [()] + [(row,) for row in family]:
                for other in WORDS:
                    self.assertIs(witness_holds(sets, other, value), word == other and value in values)

    def families(self):
        """One family for each first reason, with a right value."""
        yield (("a",),), "empty", ()
        yield ((), ("a", "b"), ("a", "c"), ("a", "d")), "middle", (("a", "b"), ("a", "c"), ("a", "d"))
        yield ((), ("a", "b"), ("c",)), "fixed", (("a", "b"),)

    def test_right_values_and_keywords(self):
        for sets, word, value in self.families():
            self.assertIs(witness_holds(sets, word, value), True)
            self.assertIs(witness_holds(value=value, word=word, sets=list(map(list, sets))), True)

    def test_values_of_every_kind(self):
        for sets, word, value in self.families():
            for odd in ODD:
                for other in WORDS:
                    expected = other == word and odd == value and isinstance(odd, tuple)
                    self.assertIs(witness_holds(sets, other, odd), expected)
                wrongs = [(odd,), [odd], (odd, odd, odd), value + (odd,), (odd,) + value, (value, odd), (value,)]
                wrongs += [value[:at] + (odd,) + value[at + 1:] for at in range(len(value))]
                wrongs += [value[:at] + (value[at] + (odd,),) + value[at + 1:] for at in range(len(value))]
                for wrong in wrongs:
                    self.assertIs(witness_holds(sets, word, wrong), wrong in witnesses(sets)[1], (word, wrong))

    def test_lists_in_values(self):
        for sets, word, value in self.families():
            self.assertIs(witness_holds(sets, word, list(value)), False)
            for at in range(len(value)):
                self.assertIs(witness_holds(sets, word, value[:at] + (list(value[at]),) + value[at + 1:]), False)

    def test_the_three_sets_in_any_order(self):
        sets = ((), ("a", "b"), ("a", "c"), ("a", "d"))
        for value in itertools.permutations(sets[1:]):
            self.assertIs(witness_holds(sets, "middle", value), True)
        for value in (sets[:3], sets[1:3], sets, sets[1:3] + sets[1:2], sets[1:3] + (("a",),)):
            # The middle of the empty set, ab and ac is missing, too.
            self.assertIs(witness_holds(sets, "middle", value), value == sets[:3])

    def test_names_out_of_order_or_repeated(self):
        sets = ((), ("b", "a"), ("c",))
        self.assertIs(witness_holds(sets, "fixed", (("a", "b"),)), True)
        for row in (("b", "a"), ("a", "a", "b"), ("a", "b", "b"), ("a",), (), ("c",)):
            self.assertIs(witness_holds(sets, "fixed", (row,)), False)
        sets = ((), ("b", "a"), ("c", "a"))
        self.assertIs(witness_holds(sets, "middle", ((), ("a", "b"), ("a", "c"))), True)
        for row in (("b", "a"), ("a", "b", "b"), ("a", "a", "b")):
            self.assertIs(witness_holds(sets, "middle", ((), row, ("a", "c"))), False)

    def test_a_reason_below_another_one_that_applies(self):
        sets = (("a", "b"), ("a", "c"), ("a", "d"))
        self.assertIs(witness_holds(sets, "empty", ()), True)
        self.assertIs(witness_holds(sets, "middle", sets), False)
        self.assertIs(witness_holds(sets, "fixed", sets[:1]), False)
        self.assertIs(witness_holds(((),) + sets, "middle", sets), True)
        self.assertIs(witness_holds(((),) + sets, "fixed", sets[:1]), False)

    def test_no_reason(self):
        family = family_of(example())
        for word in WORDS:
            for value in ((), (("a", "b"),), (("d",),), family[1:4], None):
                self.assertIs(witness_holds(family, word, value), False)


if __name__ == "__main__":
    unittest.main()
