"""The desk: [55] and [56]."""

import re
import unittest

from rough import Refused, Rough
from samples import Model, caught, grown, numbers
from test_company import outcome, some_item, told

from needpegs.boards import Board
from needpegs.company import Company
from needpegs.desk import Desk
from needpegs.texts import show_board
from needpegs.turns import Turn
from needpegs.ways import Way
from needpegs.wishes import Wish

BOARD = "board peg a 1 ; peg b 2 ; peg c 3 ; peg d 1 ; needs b a ; needs c a ; bars b c"
RIGHT = ("enter x 2", "leave x", "walk x +a -a", "obey x +a -b", "gather", "gather +a -b", "undo", "best", "show", "table")
NAME, TURNS = "[a-z]{1,6}", "( [+-][a-z]{1,6})"
FORMS = (
    r"board( [^ \n]+)+", f"enter {NAME} [1-9][0-9]{{0,3}}", f"leave {NAME}", f"walk {NAME}{TURNS}+", f"obey {NAME}{TURNS}+",
    f"gather{TURNS}*", "undo", "best", "show", "table",
)


def has_form(command):
    return any(re.fullmatch(form, command) for form in FORMS)


def desk_with(*commands):
    desk = Desk()
    for command in (BOARD,) + commands:
        desk.say(command)
    return desk


def shown(desk):
    """All that a desk tells of its company, and how it goes on from there."""
    return len(desk), desk.say("show"), desk.say("table"), desk.say("best")


class AnswerTest(unittest.TestCase):
    def check(self, desk, *rows):
        for command, answer in rows:
            self.assertEqual(desk.say(command), answer, command)

    def test_example(self):
        desk = Desk()
        answers = [desk.say("board peg a 2 ; peg b 1 ; needs b a"), desk.say("enter x 3"), desk.say("obey x +b")]
        answers += [desk.say("show"), desk.say("table")]
        self.assertEqual(answers, ["2 pegs", "cost 0", "cost 9", "x a b", "x         3  2"])

    def test_each_command(self):
        self.check(
            Desk(), (BOARD, "4 pegs"), ("show", "none"), ("table", "none"), ("best", "none"), ("undo", "nothing"),
            ("gather", "cost 0"), ("undo", "undone"), ("enter x 2", "cost 0"), ("enter y 1000", "cost 0"),
            ("show", "x ; y"), ("best", "none"), ("walk x +a +b -b +c", "cost 16"), ("show", "x a c ; y"),
            ("obey y +b -d", "cost 3000"), ("best", "a b"), ("show", "x a c ; y a b"), ("gather +c", "cost 5000"),
            ("show", "x a c ; y a c"), ("gather -c +d", "cost 4008"), ("show", "x a d ; y a d"),
            ("table", "x         2  2\ny      1000  2"), ("leave x", "cost 0"), ("show", "y a d"), ("undo", "undone"),
            ("undo", "undone"), ("show", "x a c ; y a c"), ("gather", "cost 0"), ("gather -a -b", "cost 4008"),
            ("table", "x         2  0\ny      1000  0"), ("show", "x ; y"),
        )

    def test_table_to_the_sign(self):
        pegs = [f"peg {name} 1" for name in "abcdefghijkl"]
        desk = Desk()
        desk.say("board " + " ; ".join(pegs))
        self.check(desk, ("enter abcdef 1", "cost 0"), ("enter x 1000", "cost 0"), ("enter ab 25", "cost 0"))
        desk.say("obey x " + " ".join(f"+{name}" for name in "abcdefghijkl"))
        desk.say("obey ab +c")
        rows = ["abcdef    1  0", "x      1000 12", "ab       25  1"]
        self.check(desk, ("table", "\n".join(rows)))
        self.assertEqual({len(row) for row in rows}, {14})
        self.check(desk, ("show", "abcdef ; x a b c d e f g h i j k l ; ab c"), ("leave x", "cost 0"),
                   ("table", rows[0] + "\n" + rows[2]), ("best", "c"))

    def test_pegs_in_board_order(self):
        desk = Desk()
        self.check(desk, ("board peg zz 1 ; peg b 1000 ; peg a 3", "3 pegs"), ("enter x 1", "cost 0"),
                   ("obey x +a +b +zz", "cost 1004"), ("show", "x zz b a"), ("best", "zz b a"))

    def test_walkers_with_the_names_of_words(self):
        desk, words = desk_with(), ("board", "undo", "best", "show", "table", "gather", "enter")
        for word in words:
            self.check(desk, (f"enter {word} 1", "cost 0"), (f"walk {word} +a", "cost 1"), (f"obey {word} +d", "cost 1"))
        self.assertEqual(desk.say("show"), " ; ".join(f"{word} a d" for word in words))
        for word in words:
            self.check(desk, (f"leave {word}", "cost 0"))
        self.assertEqual(desk.say("show"), "none")

    def test_eight_walkers(self):
        desk = desk_with(*[f"enter {name} 1" for name in "hgfedcba"])
        self.assertEqual((len(desk), desk.say("show")), (8, "h ; g ; f ; e ; d ; c ; b ; a"))
        self.assertEqual(caught(desk.say, "enter x 1"), ("NoDeed", "full"))


class FormTest(unittest.TestCase):
    def changed(self, command):
        """A command with something added, left out or exchanged."""
        words = command.split(" ")
        for at in range(len(words) + 1):
            for more in ("", "x", "+a", "7", "07", "0", "X", "a1", "+", "+A", "++a", "abcdefg", "+abcdefg", ";", "10000", "\n"):
                yield " ".join(words[:at] + [more] + words[at:])
                yield " ".join(words[:at] + [more] + words[at + 1:])
        for at in range(len(words)):
            yield " ".join(words[:at] + words[at + 1:])
        for at in range(len(command) + 1):
            for sign in (" ", "\n", "\t", "1", "A", "-"):
                yield command[:at] + sign + command[at:]
            yield command[:at] + command[at + 1:]
        yield command.upper()
        yield command + " " + command

    def test_every_way_to_have_none_of_the_forms(self):
        found = []
        for command in RIGHT + (BOARD, "board x", "board ; ; ;", "enter abcdef 1000", ""):
            for wrong in self.changed(command):
                desk = desk_with("enter x 2", "obey x +b")
                before = shown(desk)
                refused = caught(desk.say, wrong) == ("NoCommand",)
                self.assertIs(refused, not has_form(wrong), repr(wrong))
                if refused:
                    self.assertEqual(shown(desk), before)
                    self.assertEqual(caught(Desk().say, wrong), ("NoCommand",))
                found.append(refused)
        self.assertGreater(min(found.count(True), found.count(False)), 300)

    def test_certain_commands(self):
        for command in (
            "", " ", "\n", "enter", "enter x", "enter x 0", "enter x 01", "enter x 12345", "enter x -1", "enter x +1",
            "enter x 1 1", "enter X 1", "enter abcdefg 1", "enter  x 1", "enter x  1", "enter x 1 ", " enter x 1",
            "enter x 1\n", "leave", "leave x y", "leave X", "walk x", "walk", "walk +a", "walk x a", "walk x +a ",
            "walk x +a +", "obey x", "obey", "obey x +a b", "obey x +a;-b", "gather x", "gather ", "gather +a a", "undo x",
            "undo +a", "best +a", "show x", "table 1", "board", "board ", "board  peg a 1", "board peg a 1 ",
            "board peg a 1 ;  peg b 1", "board peg a 1 ;", "board\npeg a 1", "board peg a 1\npeg b 1", "say", "help",
            "Board peg a 1", "put x a", "budget 3", "log", "gather +abcdefg", "gather +a\n",
        ):
            expected = ("NoText", 0) if command == "board peg a 1 ;" else ("NoCommand",)
            for desk in (Desk(), desk_with("enter x 2")):
                self.assertEqual(caught(desk.say, command), expected, repr(command))

    def test_every_command_ahead_of_a_company(self):
        for command in RIGHT:
            desk = Desk()
            self.assertEqual(caught(desk.say, command), ("NoCommand",))
            self.assertEqual(len(desk), 0)
            self.assertEqual(caught(desk.say, "board x"), ("NoText", 0))
            self.assertEqual(caught(desk.say, command), ("NoCommand",))

    def test_figures(self):
        for load, expected in (("1", None), ("9", None), ("10", None), ("1000", None), ("1001", ("NoDeed", "load")),
                               ("9999", ("NoDeed", "load")), ("10000", ("NoCommand",)), ("00", ("NoCommand",))):
            self.assertEqual(caught(desk_with().say, f"enter x {load}"), expected)


class BoardTest(unittest.TestCase):
    def test_a_board_told_anew(self):
        desk = desk_with("enter x 2", "obey x +b")
        self.assertEqual((desk.say("board peg x 5"), len(desk), desk.say("show"), desk.say("undo")),
                         ("1 pegs", 0, "none", "nothing"))
        self.assertEqual((desk.say("enter x 2"), desk.say("walk x +x")), ("cost 0", "cost 10"))
        self.assertEqual(caught(desk.say, "walk x +a"), ("NoPeg", "a"))

    def test_a_board_that_is_refused_changes_nothing(self):
        desk = desk_with("enter x 2", "obey x +b")
        before = shown(desk)
        for text, error in (
            ("peg a 1 ; peg a 1", ("NoText", 1)), ("peg a 0", ("NoText", 0)), ("peg a 1 ; needs a b", ("NoText", 1)),
            ("peg a 1 ; peg b 1 ; needs a b ; needs b a", ("NoBoard", "circle", 1)), ("x", ("NoText", 0)),
            ("peg a 1 ; peg b 1 ; needs b a ; bars a b", ("NoBoard", "dead", 1)), ("peg a 1001", ("NoText", 0)),
        ):
            self.assertEqual(caught(desk.say, f"board {text}"), error)
            self.assertEqual(shown(desk), before)

    def test_semicolons(self):
        lines = {
            ";": 0, "; peg a 1": 0, "peg a 1 ;": 0, "peg a 1;peg b 1": 0, "peg a 1; peg b 1": 0, "peg a 1 ;peg b 1": 0,
            "peg a 1 ; ; peg b 1": 1, "peg a 1 ; ; ; peg b 1": 1, "peg a 1 ; peg b 1 ; ; needs b a": 2, "; ; ;": 0,
            "peg a 1 ; peg b 1 ;": 1, "peg a 1 ; ;;": 1, "peg a 1 ; ; ;": 1, ";;": 0,
        }
        for text, line in lines.items():
            with self.subTest(text=text):
                self.assertEqual(caught(Desk().say, f"board {text}"), ("NoText", line))

    def test_texts_of_many_boards(self):
        for many in range(1, 8):
            for seed in range(4):
                pegs, needs, bars, costs = grown(many, seed)
                text = show_board(Board(pegs, needs=needs, bars=bars, costs=costs))
                self.assertEqual(Desk().say("board " + text.replace("\n", " ; ")), f"{many} pegs")


class ErrorTest(unittest.TestCase):
    def test_errors_of_deeds_change_nothing(self):
        desk = desk_with("enter x 2", "obey x +b", "enter y 1")
        before = shown(desk)
        for command, error in (
            ("enter x 1", ("NoDeed", "name")), ("enter x 9999", ("NoDeed", "name")), ("enter z 1001", ("NoDeed", "load")),
            ("leave z", ("NoWalker", "z")), ("walk z +a", ("NoWalker", "z")), ("walk z +a -q", ("NoPeg", "q")),
            ("walk x +q +p", ("NoPeg", "q")), ("walk x +d +a", ("Stuck", 1)), ("obey z +q", ("NoWalker", "z")),
            ("obey x +q -a", ("NoPeg", "q")), ("obey x -q +z", ("NoPeg", "z")), ("gather +q", ("NoPeg", "q")),
            ("obey x +d -d", ("Unmet", "needs", "d", "d")), ("gather +b -a", ("Unmet", "needs", "b", "a")),
        ):
            self.assertEqual(caught(desk.say, command), error)
            self.assertEqual(shown(desk), before)
        self.assertEqual([desk.say("undo") for _ in range(4)], ["undone"] * 3 + ["nothing"])

    def test_the_form_comes_first(self):
        desk = desk_with("enter x 2")
        for command in ("walk z +q -", "obey z +q x", "enter x 01", "leave Z", "gather +q +"):
            self.assertEqual(caught(desk.say, command), ("NoCommand",))
            self.assertEqual(caught(Desk().say, command), ("NoCommand",))


class GoingOnTest(unittest.TestCase):
    def test_a_desk_and_two_companies_go_on_alike(self):
        for seed in range(40):
            pegs, needs, bars, costs = grown(5, seed)
            board, draw, desk = Board(pegs, needs=needs, bars=bars, costs=costs), numbers(seed), Desk()
            desk.say("board " + show_board(board).replace("\n", " ; "))
            company, rough = Company(board), Rough(Model(pegs, needs, bars), dict(zip(pegs, costs)))
            for _ in range(60):
                command, item = self.command(draw, pegs)
                found, expected = outcome(desk.say, command), outcome(self.answer, rough, item)
                self.assertEqual(found, expected, command)
                self.same(company, item)
                self.assertEqual(told(company), rough.told())
                self.check_shown(desk, rough)

    def command(self, draw, pegs):
        """A command and the item that it stands for."""
        if next(draw) % 6 == 0:
            return "undo", ("undo",)
        item = some_item(draw, pegs)
        word, values = item[0], item[1:]
        if word in ("put", "take"):
            turn = ("+" if word == "put" else "-") + values[1]
            return f"walk {values[0]} {turn}", ("walk", values[0], (turn,))
        if word in ("obey", "gather"):
            turns = [f"+{peg}" for peg in values[-2]] + [f"-{peg}" for peg in values[-1]]
            if word == "obey" and not turns:
                return "gather", ("gather", (), ())
            return " ".join([word, *values[:-2], *turns]), item
        if word == "walk":
            if not values[1]:
                return f"leave {values[0]}", ("leave", values[0])
            return " ".join(["walk", values[0], *values[1]]), item
        return " ".join([word, *map(str, values)]), item

    def answer(self, rough, item):
        if item[0] == "undo":
            return "undone" if rough.undo() else "nothing"
        if item[0] == "walk":
            rough.check_pegs([text[1:] for text in item[2]])
        return f"cost {rough.deed(item)}"

    def same(self, company, item):
        """The same of a company; what it answers is compared elsewhere."""
        try:
            if item[0] == "undo":
                company.undo()
            elif item[0] == "walk":
                board = company.crowd().best().board
                company.walk(item[1], Way(board, [Turn.read(text) for text in item[2]]))
            elif item[0] == "obey":
                company.obey(item[1], Wish(*item[2:]))
            elif item[0] == "gather":
                company.gather(wish=Wish(*item[1:]))
            else:
                {"enter": company.enter, "leave": company.leave}[item[0]](*item[1:])
        except (ValueError, KeyError):
            pass

    def check_shown(self, desk, rough):
        rows = rough.told()[0]
        self.assertEqual(desk.say("show"), " ; ".join(" ".join((name, *pegs)) for name, pegs, _ in rows) or "none")
        table = [name + " " * (6 - len(name)) + str(load).rjust(5) + str(len(pegs)).rjust(3) for name, pegs, load in rows]
        self.assertEqual(desk.say("table"), "\n".join(table) or "none")
        whole = sum(load for _, _, load in rows)
        heavy = [peg for peg in rough.model.pegs if 2 * sum(load for _, pegs, load in rows if peg in pegs) > whole]
        self.assertEqual((desk.say("best"), len(desk)), (" ".join(heavy) or "none", len(rows)))

    def test_two_desks_at_once(self):
        one, other = desk_with("enter x 2"), desk_with("enter y 3")
        self.assertEqual((one.say("show"), other.say("show")), ("x", "y"))
        one.say("obey x +b")
        other.say("board peg q 1")
        self.assertEqual((one.say("show"), other.say("show"), len(one), len(other), len(Desk())), ("x a b", "none", 1, 0, 0))
        self.assertEqual((other.say("undo"), one.say("undo"), one.say("undo"), one.say("undo")),
                         ("nothing", "undone", "undone", "nothing"))

    def test_length_and_keyword(self):
        desk = Desk()
        self.assertEqual((len(desk), desk.say(command=BOARD), len(desk)), (0, "4 pegs", 0))
        desk.say("enter x 1")
        desk.say("enter y 1")
        self.assertEqual(len(desk), 2)
        desk.say("leave x")
        self.assertEqual(len(desk), 1)

    def test_long_commands(self):
        desk = desk_with("enter x 1")
        self.assertEqual(desk.say("walk x" + " +d -d" * 100), "cost 200")
        self.assertEqual(outcome(desk.say, "walk x" + " +d -d" * 100 + " -d"), ("Stuck", 200))
        self.assertFalse(issubclass(Refused, (ValueError, KeyError)))


if __name__ == "__main__":
    unittest.main()
