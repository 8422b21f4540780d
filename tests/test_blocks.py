"""Blocks: [51] to [53]."""

import itertools
import unittest

from rough import Rough
from samples import PEGS, Model, caught, example, grown, numbers
from test_company import do, example_company, outcome, some_item, told

from needpegs.blocks import Guard, Hold, Trial
from needpegs.boards import Board
from needpegs.company import Company
from needpegs.errors import Held, NoPeg
from needpegs.ways import Way
from needpegs.wishes import Wish


class Other(Exception):
    """An error that is none of the package's."""


def pair_of():
    """A company with two walkers."""
    return example_company(("x", ("a", "b"), 2), ("y", ("d",), 1))


class HoldTest(unittest.TestCase):
    def test_pegs_are_held_within_the_block(self):
        company = pair_of()
        self.assertEqual(company.held_pegs, ())
        with company.held("d", "b", "d") as hold:
            self.assertIsInstance(hold, Hold)
            self.assertNotIsInstance(hold, Trial)
            self.assertEqual(company.held_pegs, ("b", "d"))
            for call, peg in ((company.take_out, "b"), (company.put_in, "d"), (company.put_in, "b")):
                self.assertEqual(caught(call, "x", peg), ("Held", peg))
            self.assertEqual(company.put_in("y", "a"), 1)
        self.assertEqual((company.held_pegs, company.put_in("x", "d")), ((), 2))
        self.assertEqual(company.stand("y").pegs, ("a", "d"))

    def test_holds_in_holds(self):
        company = pair_of()
        with company.held("b"):
            with company.held("c", "b"):
                with company.held():
                    self.assertEqual(company.held_pegs, ("b", "c"))
                with company.held("a", "d"):
                    self.assertEqual(company.held_pegs, PEGS)
                self.assertEqual(company.held_pegs, ("b", "c"))
            self.assertEqual(company.held_pegs, ("b",))
        self.assertEqual(company.held_pegs, ())

    def test_what_as_gives(self):
        company = pair_of()
        for block, kinds in (
            (company.held("a"), (Hold,)), (company.trial(), (Trial,)), (company.guarded("a"), (Guard, Trial, Hold)),
        ):
            with block as given:
                self.assertIs(given, block)
                for kind in (Hold, Trial, Guard):
                    self.assertIs(isinstance(given, kind), kind in kinds)

    def test_it_counts_from_the_beginning_of_the_block(self):
        company = pair_of()
        one, other = company.held("a"), company.held("b")
        self.assertEqual(company.held_pegs, ())
        with other:
            with one:
                self.assertEqual(company.held_pegs, ("a", "b"))
            self.assertEqual(company.held_pegs, ("b",))
        self.assertEqual(company.held_pegs, ())

    def test_no_peg(self):
        company = pair_of()
        before = told(company)
        for call in (company.held, company.guarded):
            for pegs, peg in ((("e",), "e"), (("a", "z", "e"), "z"), (("b", "", "z"), ""), (("A", "a"), "A")):
                self.assertEqual(caught(call, *pegs), ("NoPeg", peg))
        with self.assertRaises(NoPeg):
            with company.held("a", "e"):
                self.fail("the block must not begin")
        self.assertEqual(told(company), before)

    def test_a_trial_within_it_leaves_what_is_held(self):
        company = pair_of()
        with company.held("d"):
            with company.trial() as trial:
                trial.keep()
                self.assertEqual(company.held_pegs, ("d",))
                with company.held("a"):
                    self.assertEqual(company.held_pegs, ("a", "d"))
            self.assertEqual(company.held_pegs, ("d",))


class TrialTest(unittest.TestCase):
    def test_taken_back_unless_kept(self):
        for kept in (False, True):
            company = example_company(("x", ("a", "b"), 2), ("y", ("d",), 1), budget=50)
            before = told(company)
            with company.trial() as trial:
                company.put_in("x", "d")
                company.leave("y")
                company.enter("z", 7)
                company.budget = 40
                if kept:
                    self.assertIsNone(trial.keep())
                company.put_in("z", "a")
                inside = told(company)
                self.assertEqual((trial.paid, company.spent), (9, before[2] + 9))
            self.assertEqual(told(company), inside if kept else before)

    def test_paid(self):
        company = pair_of()
        with company.trial() as outer:
            self.assertEqual(outer.paid, 0)
            company.put_in("x", "d")
            with company.guarded("a") as inner:
                self.assertEqual((outer.paid, inner.paid), (2, 0))
                company.take_out("y", "d")
                self.assertEqual((outer.paid, inner.paid), (3, 1))
                company.undo()
                self.assertEqual((outer.paid, inner.paid), (2, 0))
                company.take_out("y", "d")
                inner.keep()
            self.assertEqual(outer.paid, 3)
            with company.trial() as inner:
                company.take_out("x", "b")
                self.assertEqual((outer.paid, inner.paid), (7, 4))
            self.assertEqual(outer.paid, 3)
            self.assertEqual((company.undo(), outer.paid), (True, 2))

    def test_undo_stops_where_the_block_began(self):
        company = pair_of()
        before = told(company)
        with company.trial() as trial:
            self.assertIs(company.undo(), False)
            company.put_in("x", "d")
            company.take_out("x", "d")
            with company.trial():
                self.assertIs(company.undo(), False)
                company.put_in("x", "d")
                self.assertEqual((company.undo(), company.undo()), (True, False))
            self.assertEqual([company.undo() for _ in range(3)], [True, True, False])
            self.assertEqual(told(company), before)
            trial.keep()
        self.assertEqual([company.undo() for _ in range(5)], [True] * 4 + [False])

    def test_undo_beyond_the_beginning_raises_no_error_for_held_pegs(self):
        company = pair_of()
        with company.held(*PEGS):
            self.assertEqual(caught(company.undo), ("Held", "d"))
            with company.trial():
                self.assertIs(company.undo(), False)
                self.assertEqual(company.walk("x", Way(example())), 0)
                self.assertEqual((company.undo(), company.undo()), (True, False))
            self.assertEqual(caught(company.undo), ("Held", "d"))
        with company.guarded(*PEGS):
            self.assertIs(company.undo(), False)
        with company.held("a"):
            self.assertIs(company.undo(), True)

    def test_kept_deeds_can_be_taken_back(self):
        company = pair_of()
        states = [told(company)]
        with company.trial() as outer:
            company.put_in("x", "d")
            states.append(told(company))
            with company.trial() as inner:
                company.take_out("y", "d")
                states.append(told(company))
                inner.keep()
            outer.keep()
            self.assertIs(company.undo(), True)
            self.assertEqual(told(company), states[1])
            company.take_out("y", "d")
        for state in states[1::-1]:
            self.assertIs(company.undo(), True)
            self.assertEqual(told(company), state)

    def test_a_kept_inner_trial_is_taken_back_with_the_outer_one(self):
        company = pair_of()
        before = told(company)
        with company.trial():
            with company.trial() as inner:
                company.put_in("x", "d")
                inner.keep()
            self.assertEqual(company.stand("x").pegs, ("a", "b", "d"))
        self.assertEqual(told(company), before)

    def test_an_outer_trial_that_was_kept_early_keeps_what_comes_after(self):
        company = pair_of()
        with company.trial() as outer:
            outer.keep()
            with company.trial() as inner:
                company.put_in("x", "d")
                inner.keep()
            with company.trial():
                company.take_out("y", "d")
        self.assertEqual((company.stand("x").pegs, company.stand("y").pegs), (("a", "b", "d"), ("d",)))

    def test_keep_of_an_outer_trial_within_an_inner_one(self):
        company = pair_of()
        with company.trial() as outer:
            company.put_in("x", "d")
            with company.trial():
                company.take_out("y", "d")
                outer.keep()
        self.assertEqual((company.stand("x").pegs, company.stand("y").pegs), (("a", "b", "d"), ("d",)))

    def test_taken_back_also_for_held_pegs(self):
        company = pair_of()
        with company.held("a"):
            with company.trial():
                with company.held("d"):
                    company.take_out("x", "b")
                company.put_in("x", "d")
                with company.held(*PEGS):
                    with company.trial():
                        company.leave("x")
                    self.assertEqual(company.stand("x").pegs, ("a", "d"))
            self.assertEqual((company.stand("x").pegs, company.held_pegs), (("a", "b"), ("a",)))

    def test_the_budget(self):
        for kept in (False, True):
            company = example_company(("x", ("a", "b"), 2), budget=8)
            with company.trial() as trial:
                company.budget = None
                company.put_in("x", "d")
                company.take_out("x", "d")
                self.assertEqual(caught(setattr, company, "budget", 9), ("NoDeed", "budget"))
                company.budget = 10
                self.assertEqual(caught(company.put_in, "x", "d"), ("Spent", 2))
                if kept:
                    trial.keep()
            self.assertEqual((company.budget, company.spent), (10, 10) if kept else (8, 6))
            self.assertEqual(caught(company.put_in, "x", "d"), ("Spent", 2) if kept else None)

    def test_where_it_begins_and_not_where_it_is_made(self):
        company = pair_of()
        trial = company.trial()
        company.put_in("x", "d")
        with trial:
            self.assertEqual(trial.paid, 0)
            self.assertIs(company.undo(), False)
            company.take_out("x", "b")
            self.assertEqual(trial.paid, 4)
        self.assertEqual(company.stand("x").pegs, ("a", "b", "d"))

    def test_each_trial_for_itself(self):
        company = pair_of()
        self.assertIsNot(company.trial(), company.trial())
        with company.trial() as one:
            one.keep()
        with company.trial():
            company.put_in("x", "d")
        self.assertEqual(company.stand("x").pegs, ("a", "b"))


class GuardTest(unittest.TestCase):
    def test_bases(self):
        self.assertTrue(issubclass(Guard, Trial) and issubclass(Guard, Hold))
        self.assertFalse(issubclass(Trial, Hold) or issubclass(Hold, Trial))
        for kind in (Hold, Trial, Guard):
            self.assertTrue({"__enter__", "__exit__"} <= set(vars(kind)))
        for kind in (Trial, Guard):
            self.assertIn("keep", vars(kind))
            self.assertIsInstance(vars(kind)["paid"], property)

    def test_both_at_once(self):
        for kept in (False, True):
            company = pair_of()
            with company.guarded("a", "c") as guard:
                self.assertEqual((company.held_pegs, guard.paid), (("a", "c"), 0))
                self.assertEqual(caught(company.put_in, "y", "a"), ("Held", "a"))
                self.assertEqual((company.undo(), company.take_out("x", "b")), (False, 4))
                if kept:
                    self.assertIsNone(guard.keep())
                self.assertEqual((company.put_in("x", "d"), guard.paid), (2, 6))
            self.assertEqual((company.held_pegs, company.stand("x").pegs), ((), ("a", "d") if kept else ("a", "b")))

    def test_without_pegs(self):
        company = pair_of()
        with company.guarded(), company.held():
            self.assertEqual(company.held_pegs, ())
            company.leave("x")
        self.assertEqual(company.names, ("x", "y"))


class LeavingTest(unittest.TestCase):
    def blocks(self, company):
        return (company.held("d"), company.trial(), company.guarded("d"))

    def test_an_error_is_passed_on(self):
        company = pair_of()
        before = told(company)
        for error in (Held("q"), NoPeg("q"), Other("q"), ZeroDivisionError(), KeyboardInterrupt(), StopIteration()):
            for block in self.blocks(company):
                with self.assertRaises(type(error)) as context:
                    with block:
                        company.take_out("x", "b") if not isinstance(block, Trial) else company.leave("x")
                        block.keep() if isinstance(block, Trial) else company.put_in("x", "b")
                        raise error
                self.assertIs(context.exception, error)
                self.assertEqual((told(company)[0], told(company)[4]), (before[0], ()))

    def test_left_by_return_and_break(self):
        company = pair_of()

        def left(kept):
            for block in (company.trial(), company.guarded("d")):
                with block:
                    company.enter("z")
                    if kept:
                        block.keep()
                        return "returned"
                    break
            return "broken"

        self.assertEqual((left(False), company.names), ("broken", ("x", "y")))
        self.assertEqual((left(True), company.names, company.held_pegs), ("returned", ("x", "y", "z"), ()))

    def test_an_error_that_is_caught_within_the_block(self):
        company = pair_of()
        with company.guarded("d") as guard:
            self.assertEqual(caught(company.put_in, "x", "d"), ("Held", "d"))
            company.take_out("x", "b")
            guard.keep()
        self.assertEqual(company.stand("x").pegs, ("a",))


class NestingTest(unittest.TestCase):
    """Blocks in each other, at every step compared with the second company."""

    def test_every_way_up_to_five_deep(self):
        for depth in range(6):
            for kinds in itertools.product(("held", "trial", "guarded"), repeat=depth):
                for plan in range(4):
                    self.check_nest(kinds, plan)

    def check_nest(self, kinds, plan):
        """One walker turns each peg of a chain in a block of its own; some blocks are kept, the innermost may fail."""
        company = Company(Board(tuple("abcdef")), budget=100)
        company.enter("x")
        kept = [(plan + at) % 2 == 0 if plan < 2 else plan == 2 for at in range(len(kinds))]
        if plan == 3:
            self.assertRaises(Other, self.nest, company, kinds, kept, True)
        else:
            self.nest(company, kinds, kept, False)
        self.assertEqual((company.held_pegs, company.undo()), ((), True))

    def nest(self, company, kinds, kept, failing):
        if not kinds:
            self.assertEqual(company.put_in("x", "f"), 1)
            if failing:
                raise Other
            return
        before, peg = told(company), "abcde"[len(kinds) - 1]
        block = company.trial() if kinds[0] == "trial" else getattr(company, kinds[0])(peg)
        raised = None
        try:
            with block as given:
                self.assertEqual(peg in company.held_pegs, kinds[0] != "trial")
                company.budget -= 1
                if kinds[0] == "trial":
                    company.put_in("x", peg)
                if kept[0] and kinds[0] != "held":
                    given.keep()
                self.nest(company, kinds[1:], kept[1:], failing)
                inside = told(company)
        except Other as error:
            raised = error
        self.assertIs(raised is not None, failing)
        self.assertEqual(told(company)[4], before[4])
        if kinds[0] != "held":
            self.assertEqual(told(company)[:4], inside[:4] if kept[0] and not failing else before[:4])
        elif not failing:
            self.assertEqual(told(company)[:4], inside[:4])
        if raised is not None:
            raise raised

    def test_disordered_programs(self):
        for seed in range(400):
            pegs, needs, bars, costs = grown(5, seed)
            board, model = Board(pegs, needs=needs, bars=bars, costs=costs), Model(pegs, needs, bars)
            limit = None if seed % 2 else 20000
            company, rough = Company(board, budget=limit), Rough(model, dict(zip(pegs, costs)), limit)
            self.program(company, rough, board, numbers(seed), [])
            self.assertEqual(told(company), rough.told())
            while rough.undo():
                self.assertIs(company.undo(), True)
                self.assertEqual(told(company), rough.told())
            self.assertIs(company.undo(), False)

    def program(self, company, rough, board, draw, trials, depth=0):
        """Some steps; the trials are those around, each with what was spent before, and with what it was told."""
        for _ in range(next(draw) % 7 + (12 if depth == 0 else 2)):
            what = next(draw) % 10
            if what < 2 and depth < 5:
                self.block(company, rough, board, draw, trials, depth)
            elif what == 2 and trials:
                trial = trials[next(draw) % len(trials)]
                self.assertEqual(trial[0].paid, rough.spent - trial[1])
                if next(draw) % 2:
                    self.assertIsNone(trial[0].keep())
                    trial.append("keep")
            elif what == 3:
                self.assertEqual(outcome(company.undo), outcome(rough.undo))
            elif what == 4:
                limit = (None, rough.spent, rough.spent - 1, rough.spent + 9000, 10 ** 6)[next(draw) % 5]
                self.assertEqual(caught(setattr, company, "budget", limit), outcome(rough.assign, limit))
            else:
                item = some_item(draw, rough.model.pegs)
                self.assertEqual(outcome(do, company, board, item), outcome(rough.deed, item))
            self.assertEqual(told(company), rough.told())

    def block(self, company, rough, board, draw, trials, depth):
        kind, left = ("held", "trial", "guarded")[next(draw) % 3], (None, None, Other(), Held("q"))[next(draw) % 4]
        pegs = [peg for peg in rough.model.pegs if next(draw) % 3 == 0] if kind != "trial" else []
        saved, held, floor = rough.saved(), rough.held, rough.floor
        block = company.trial() if kind == "trial" else getattr(company, kind)(*pegs)
        around = trials if kind == "held" else trials + [[block, rough.spent]]
        try:
            with block as given:
                self.assertIs(given, block)
                rough.held = held | set(pegs)
                rough.floor = floor if kind == "held" else len(rough.past)
                self.program(company, rough, board, draw, around, depth + 1)
                if left is not None:
                    raise left
        except (Other, Held) as error:
            self.assertIs(error, left)
        rough.held, rough.floor = held, floor
        if kind != "held" and (left is not None or "keep" not in around[-1]):
            rough.restore(saved)
        self.assertEqual(told(company), rough.told())


class DeedsInBlocksTest(unittest.TestCase):
    def test_example(self):
        company = example_company(("x", ("a", "c"), 2))
        with company.held("c"):
            self.assertEqual(caught(company.take_out, "x", "c"), ("Held", "c"))
        with company.trial() as trial:
            company.take_out("x", "c")
            company.take_out("x", "a")
            self.assertEqual(trial.paid, 8)
        self.assertEqual(company.stand("x").pegs, ("a", "c"))

    def test_every_deed_is_taken_back(self):
        for item in (
            ("enter", "z", 5), ("leave", "x"), ("put", "x", "d"), ("take", "x", "b"), ("walk", "x", ("-b", "+c")),
            ("obey", "y", ("b",), ("d",)), ("gather", (), ("b",)),
        ):
            for block_of in (Company.trial, lambda company: company.guarded()):
                company = pair_of()
                before = told(company)
                with block_of(company):
                    do(company, example(), item)
                    self.assertNotEqual(told(company), before)
                self.assertEqual(told(company), before)

    def test_deeds_that_change_no_held_peg(self):
        company = pair_of()
        with company.held("c", "b"):
            self.assertEqual(company.obey("x", Wish(("d",))), 2)
            self.assertEqual(company.put_in("y", "a"), 1)
            self.assertEqual((company.leave("y"), company.enter("y")), (0, 0))


if __name__ == "__main__":
    unittest.main()
