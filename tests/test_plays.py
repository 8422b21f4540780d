"""Plays: [54]."""

import unittest

from rough import Rough
from samples import ODD, PEGS, Model, caught, example, grown, numbers
from test_company import SeveralTest, example_company, example_pair, some_item, told

from needpegs.boards import Board
from needpegs.company import Company
from needpegs.errors import Held, NoWalker
from needpegs.plays import play, within

FIRST = (("enter", "x", 2), ("put", "x", "a"), ("enter", "y", 1))


class Other(Exception):
    """An error that is none of the package's."""


def started():
    """The example with two walkers, in both companies."""
    company, rough = example_pair(60)
    company.several(FIRST)
    rough.several(FIRST)
    return company, rough


class BothCompanies(unittest.TestCase):
    def check(self, items, *expected):
        """Both companies give the expected answers, if there are any, and go on alike."""
        company, rough = started()
        found = play(company, items)
        self.assertEqual(found, rough.play(items))
        self.assertEqual(told(company), rough.told())
        self.assertIs(type(found), tuple)
        if expected:
            self.assertEqual(found, expected[0])
        return found


class AnswerTest(BothCompanies):
    def test_example(self):
        company = Company(example())
        first = play(company, (("enter", "x", 1), ("put", "x", "a")))
        second = play(company, (("trial", (("take", "x", "a"), ("paid",), ("put", "x", "b"))), ("stand", "x")))
        self.assertEqual((first, second), ((0, 1), ((1, 1, ("ended", 2)), ("a",))))

    def test_deeds(self):
        items = SeveralTest.RIGHT
        self.assertEqual(play(Company(example()), items), play(Company(example()), list(items)))
        self.check((("put", "x", "b"), ("walk", "x", ("-b", "+c")), ("obey", "y", ("b",), ()), ("gather", (), ()),
                    ("gather", ("b",), ("d",)), ("take", "x", "b"), ("leave", "y"), ("enter", "z", 1000)),
                   (4, 10, 3, 5, 15, 4, 0, 0))

    def test_what_is_asked(self):
        self.check((("spent",), ("held_pegs",), ("stand", "x"), ("stand", "y"), ("log",)),
                   (2, (), ("a",), (), FIRST))
        self.check((("undo",), ("undo",), ("undo",), ("undo",), ("spent",), ("log",)), (True, True, True, False, 0, ()))
        self.check((("held", ("d", "b"), (("held_pegs",), ("held", ("a",), (("held_pegs",),)))), ("held_pegs",)),
                   ((("b", "d"), (("a", "b", "d"),)), ()))

    def test_the_budget(self):
        self.check((("budget", 2), ("put", "x", "d")), (None, ("ended", 1)))
        self.check((("budget", None), ("budget", 10 ** 9), ("put", "x", "d")), (None, None, 2))
        for value in (1, 0, -1):
            self.check((("budget", value), ("spent",)), (("ended", 0),))
        for value in (True, False, "5", (), (5,), [5]):
            self.check((("spent",), ("budget", value), ("spent",)), (2, ("ended", 1)))
        self.check((("trial", (("budget", 2), ("put", "y", "d"))), ("put", "y", "d")), ((None, ("ended", 1)), 1))
        self.check((("trial", (("budget", 2), ("keep",))), ("put", "y", "d")), ((None, None), ("ended", 1)))

    def test_walkers_with_the_names_of_words(self):
        words = ("keep", "paid", "held", "trial", "undo", "put", "log", "spent")
        company = Company(example())
        items = [("enter", word, 1) for word in words] + [("stand", word) for word in words]
        self.assertEqual(play(company, items), (0,) * 8 + ((),) * 8)
        self.assertEqual(play(company, [("put", word, "a") for word in words]), (1,) * 8)
        self.assertEqual(play(company, [("trial", tuple(("leave", word) for word in words)), ("leave", "keep")]), ((0,) * 8, 0))
        self.assertEqual(company.names, words[1:])

    def test_no_items(self):
        self.check((), ())
        self.check([], ())
        self.check((("trial", ()), ("held", (), ()), ("guarded", (), ())), ((), (), ()))

    def test_blocks(self):
        put, take = ("put", "x", "d"), ("take", "x", "d")
        self.check((("trial", (put, ("paid",))), ("stand", "x")), ((2, 2), ("a",)))
        self.check((("trial", (put, ("keep",), take, ("paid",), put)), ("stand", "x")), ((2, None, 2, 4, 2), ("a", "d")))
        self.check((("guarded", ("d",), (put,)), ("stand", "x")), ((("ended", 0),), ("a",)))
        self.check((("guarded", ("b",), (put, ("keep",))), ("stand", "x")), ((2, None), ("a", "d")))
        self.check((("held", ("d",), (put,)), put), ((("ended", 0),), 2))
        self.check((("held", ("b",), (put,)), ("stand", "x")), ((2,), ("a", "d")))
        self.check((("held", ("b", "q"), (put,)), put), (("ended", 0),))
        self.check((put, ("guarded", ("q",), ()), take), (2, ("ended", 1)))
        self.check((("trial", (put, ("held", ("q",), ()), take)), put), ((2, ("ended", 1)), 2))

    def test_ended_in_and_outside_of_blocks(self):
        wrong = ("put", "x", "c", "d")
        self.check((wrong, ("spent",)), (("ended", 0),))
        self.check((("spent",), wrong, ("spent",)), (2, ("ended", 1)))
        self.check((("held", (), (("spent",), wrong, ("spent",))), ("spent",)), ((2, ("ended", 1)), 2))
        inner = ("trial", (("put", "x", "d"), ("keep",), wrong))
        self.check((("trial", (inner, ("put", "y", "d"), ("keep",), inner)), ("stand", "x"), ("stand", "y")),
                   (((2, None, ("ended", 2)), 1, None, (2, None, ("ended", 2))), ("a",), ("d",)))
        self.check((("trial", (("put", "x", "d"), ("undo",), ("undo",), ("stand", "q"))), ("undo",)),
                   ((2, True, False, ("ended", 3)), True))

    def test_keep_and_paid(self):
        for word in ("keep", "paid"):
            self.check((("spent",), (word,), ("spent",)), (2, ("ended", 1)))
            self.check((("held", ("b",), (("spent",), (word,))), ("spent",)), ((2, ("ended", 1)), 2))
            self.check((("trial", ()), (word,)), ((), ("ended", 1)))
        # Within a hold they are those of the trial around it; a trial around the play is not one of this play.
        self.check((("trial", (("held", ("b",), (("put", "x", "d"), ("paid",), ("keep",))),)), ("stand", "x")),
                   (((2, 2, None),), ("a", "d")))
        self.check((("trial", (("put", "x", "d"), ("guarded", (), (("paid",), ("keep",))), ("paid",))), ("stand", "x")),
                   ((2, (0, None), 2), ("a",)))
        company, _ = started()
        with company.trial() as trial:
            self.assertEqual(play(company, (("put", "x", "d"), ("paid",))), (2, ("ended", 1)))
            self.assertEqual(play(company, (("held", (), (("keep",),)), ("spent",))), ((("ended", 0),), 4))
            items = (("trial", (("take", "x", "a"), ("paid",), ("undo",), ("undo",))),)
            self.assertEqual(play(company, items), ((2, 2, True, False),))
            self.assertEqual(trial.paid, 2)
        self.assertEqual(company.stand("x").pegs, ("a",))

    def test_within_blocks_of_a_company(self):
        company, _ = started()
        with company.held("d"), company.trial() as trial:
            found = play(company, (("held_pegs",), ("undo",), ("put", "y", "a"), ("put", "x", "d"), ("spent",)))
            self.assertEqual(found, (("d",), False, 1, ("ended", 3)))
            trial.keep()
        self.assertEqual(company.stand("y").pegs, ("a",))

    def test_fourteen_deep(self):
        for kinds in (("trial",), ("held", "guarded"), ("guarded", "trial", "held")):
            items = (("put", "x", "d"), ("stand", "x"))
            for depth in range(13):
                kind = kinds[depth % len(kinds)]
                items = ((kind, items) if kind == "trial" else (kind, (), items), ("spent",))
            self.check(items)
            self.check([("enter", "z", 3), *items, ("stand", "x")])


class WrongItemTest(BothCompanies):
    FORMS = (
        ("undo",), ("spent",), ("held_pegs",), ("log",), ("budget", 50), ("budget", None), ("stand", "x"),
        ("held", ("a",), (("spent",),)), ("trial", (("spent",),)), ("guarded", ("a",), (("spent",),)), ("keep",), ("paid",),
    )

    def wrong_items(self):
        yield from SeveralTest().wrong_items()
        for item in self.FORMS:
            yield item
            yield item[:-1]
            yield item + ((),)
            yield item + (item[-1],)
            yield list(item)
            yield (item,)
            yield [item]
            for at in range(1, len(item)):
                for odd in ODD:
                    yield item[:at] + (odd,) + item[at + 1:]
        yield from (("Undo",), ("undo ",), ("keep", None), ("held",), ("held", ()), ("trial",), ("guarded", (), (), ()))
        yield from (("held", ["a"], ()), ("held", ("a",), []), ("trial", []), ("guarded", (1,), ()), ("held", "a", ()))

    def test_in_and_outside_of_blocks(self):
        put = ("put", "x", "d")
        for item in self.wrong_items():
            with self.subTest(item=item):
                for items in (
                    (item,), [put, item, put], (("held", ("b",), (put, item, put)), ("spent",)),
                    (("trial", (put, ("keep",), item)), ("stand", "x")), (("guarded", (), (item, put, ("keep",))), put),
                ):
                    kept = repr(items)
                    self.check(items)
                    self.assertEqual(repr(items), kept)

    def test_items_that_are_never_reached(self):
        wrong = ("nothing", [], True)
        self.check((("trial", (("put", "q", "d"), wrong)), ("spent",)), ((("ended", 0),), 2))
        self.check((("trial", (("spent",), ("trial", (wrong,)), ("spent",))), ("spent",)), ((2, (("ended", 0),), 2), 2))
        self.check((("held", ("q",), (wrong,)), wrong), (("ended", 0),))
        self.check((("keep",), ("trial", [wrong])), (("ended", 0),))
        self.check((("trial", (("stand", "q"), [wrong])), ("held", (), (("leave", "q"), None))),
                   ((("ended", 0),), (("ended", 0),)))

    def test_lists(self):
        put = ("put", "x", "d")
        self.check([put, ["put", "x", "b"]], (2, ("ended", 1)))
        self.check((("trial", [put]),), (("ended", 0),))
        self.check((("trial", (put, ["spent"])), ("spent",)), ((2, ("ended", 1)), 2))
        self.check((("held", ["b"], (put,)), put), (("ended", 0),))
        self.check((("walk", "x", ["+d"]), put), (("ended", 0),))


class DisorderedTest(unittest.TestCase):
    def items(self, draw, pegs, depth):
        """Some items, most of them right."""
        found = []
        for _ in range(next(draw) % 4 + 1):
            what = next(draw) % 16
            some = tuple(peg for peg in pegs if next(draw) % 4 == 0)
            if what < 6 and depth < 5:
                inner = tuple(self.items(draw, pegs, depth + 1))
                word = ("held", "trial", "guarded")[what % 3]
                found.append((word, inner) if word == "trial" else (word, some, inner))
            elif what < 12:
                asked = (("undo",), ("keep",), ("paid",), ("log",), ("held_pegs",), ("stand", "x"), ("spent",),
                         ("budget", (None, 10 ** 5, 2000)[next(draw) % 3]))
                found.append(asked[next(draw) % 8])
            elif what == 12 and next(draw) % 4 == 0:
                found.append((["undo"], ("stand", "q"), ("enter", "x", True), ("held", ("q",), ()), "undo")[next(draw) % 5])
            else:
                found.append(some_item(draw, pegs))
        return found

    def test_many_plays(self):
        ended = whole = 0
        for seed in range(300):
            pegs, needs, bars, costs = grown(5, seed)
            board, draw = Board(pegs, needs=needs, bars=bars, costs=costs), numbers(seed)
            company, rough = Company(board), Rough(Model(pegs, needs, bars), dict(zip(pegs, costs)))
            for name, load in (("x", 2), ("b", 1)):
                company.enter(name, load)
                rough.deed(("enter", name, load))
            for _ in range(8):
                items = self.items(draw, pegs, 0)
                found = play(company, items)
                self.assertEqual(found, rough.play(items))
                self.assertEqual(told(company), rough.told())
                ended += "ended" in repr(found)
                whole += "ended" not in repr(found)
        self.assertGreater(min(ended, whole), 200)

    def test_the_company_goes_on(self):
        company, _ = started()
        play(company, (("trial", (("trial", (("held", PEGS, (("leave", "q"),)),)),)), ("stand", "q")))
        self.assertEqual((company.held_pegs, company.undo(), company.undo(), company.undo()), ((), True, True, True))


class WithinTest(unittest.TestCase):
    def test_what_the_block_gives_and_the_function_returns(self):
        company = example_company(("x", ("a", "b"), 2))
        for block in (company.held("d"), company.trial(), company.guarded("d")):
            self.assertIs(within(block, lambda given: given), block)
        for value in (None, [], {"a": 1}, 3):
            self.assertIs(within(company.trial(), lambda given: value), value)
        self.assertEqual(within(call=lambda given: 5, block=company.held()), 5)

    def test_deeds(self):
        company = example_company(("x", ("a", "b"), 2))
        before = told(company)
        self.assertEqual(within(company.trial(), lambda trial: (company.put_in("x", "d"), trial.paid)), (2, 2))
        self.assertEqual(told(company), before)
        self.assertEqual(within(company.trial(), lambda trial: (company.put_in("x", "d"), trial.keep())), (2, None))
        self.assertEqual(company.stand("x").pegs, ("a", "b", "d"))
        self.assertEqual(within(company.held("d"), lambda hold: (company.held_pegs, company.take_out("x", "b"))), (("d",), 4))
        self.assertEqual((company.held_pegs, company.stand("x").pegs), ((), ("a", "d")))

    def test_blocks_within_it(self):
        company = example_company(("x", ("a", "b"), 2))

        def inner(given):
            company.take_out("x", "b")
            return company.held_pegs, given.paid

        def outer(given):
            with company.held("c") as hold:
                found = within(company.guarded("d"), inner)
                kept = within(company.trial(), lambda trial: (inner(trial), trial.keep()))
            self.assertIsNot(hold, given)
            return found, kept, given.paid, play(company, (("trial", (("put", "x", "b"), ("paid",))), ("paid",)))

        found = within(company.guarded("a"), outer)
        expected = ((("a", "c", "d"), 4), ((("a", "c"), 4), None), 4, ((4, 4), ("ended", 1)))
        self.assertEqual((found, company.stand("x").pegs), (expected, ("a", "b")))

    def test_errors_are_passed_on(self):
        company = example_company(("x", ("a", "b"), 2))
        before = told(company)

        def failing(error):
            def call(given):
                company.take_out("x", "b")
                if hasattr(given, "keep"):
                    given.keep()
                raise error
            return call

        for error in (Held("q"), NoWalker("q"), Other(), ZeroDivisionError()):
            for block in (company.trial(), company.guarded("d")):
                with self.assertRaises(type(error)) as context:
                    within(block, failing(error))
                self.assertIs(context.exception, error)
                self.assertEqual(told(company), before)
        self.assertEqual(caught(within, company.held("b"), lambda hold: company.take_out("x", "b")), ("Held", "b"))
        with self.assertRaises(Other):
            within(company.held("d"), failing(Other()))
        self.assertEqual((company.stand("x").pegs, company.held_pegs), (("a",), ()))


class KeywordTest(unittest.TestCase):
    def test_play(self):
        company, _ = started()
        self.assertEqual(play(items=[("spent",)], company=company), (2,))


if __name__ == "__main__":
    unittest.main()
