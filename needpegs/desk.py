"""The desk: commands and answers in words."""

from needpegs.boards import Board
from needpegs.company import Company
from needpegs.errors import NoCommand
from needpegs.names import right_name, right_turn
from needpegs.texts import right_figure
from needpegs.turns import Turn
from needpegs.ways import Way
from needpegs.wishes import Wish

ALONE = ("undo", "best", "show", "table")


class Desk:
    """A desk that keeps a company, or none at first."""

    def __init__(self):
        self._board = None
        self._company = None

    def __len__(self):
        if self._company is None:
            return 0
        return len(self._company)

    def say(self, command):
        """Carries out a command and returns the answer."""
        words = command.split(" ")
        if "\n" in command or "" in words or not is_command(words[0], words[1:]):
            raise NoCommand()
        if words[0] == "board":
            return self.begin(" ".join(words[1:]))
        if self._company is None:
            raise NoCommand()
        if words[0] in ALONE:
            return self.told(words[0])
        cost = self.deed_cost(words[0], words[1:])
        return f"cost {cost}"

    def begin(self, text):
        """Reads a board and begins a new company."""
        board = Board.read(text.replace(" ; ", "\n"))
        self._board = board
        self._company = Company(board)
        return f"{len(board)} pegs"

    def deed_cost(self, word, rest):
        """Makes the deed of a command and returns its cost."""
        company = self._company
        if word == "enter":
            return company.enter(rest[0], int(rest[1]))
        if word == "leave":
            return company.leave(rest[0])
        if word == "walk":
            return company.walk(rest[0], Way(self._board, [Turn.read(text) for text in rest[1:]]))
        if word == "obey":
            return company.obey(rest[0], wish_of(rest[1:]))
        return company.gather(wish=wish_of(rest))

    def told(self, word):
        """The answer to a command of one word."""
        company = self._company
        if word == "undo":
            return "undone" if company.undo() else "nothing"
        if word == "best":
            return " ".join(company.crowd().best().pegs) or "none"
        if word == "show":
            return " ; ".join([" ".join((name,) + company.stand(name).pegs) for name in company.names]) or "none"
        return "\n".join([table_row(company, name) for name in company.names]) or "none"


def is_command(word, rest):
    """Whether a first word and the words behind it are a command."""
    if word == "board":
        return len(rest) > 0
    if word == "enter":
        return len(rest) == 2 and right_name(rest[0]) and right_figure(rest[1])
    if word == "leave":
        return len(rest) == 1 and right_name(rest[0])
    if word == "walk" or word == "obey":
        return len(rest) > 1 and right_name(rest[0]) and are_turns(rest[1:])
    if word == "gather":
        return are_turns(rest)
    return word in ALONE and len(rest) == 0


def are_turns(words):
    """Whether all words are texts of turns."""
    return all([right_turn(word) for word in words])


def wish_of(words):
    """The wish for the pegs with a plus in and those with a minus out."""
    turns = [Turn.read(word) for word in words]
    inside = [turn.peg for turn in turns if turn.sign == "+"]
    outside = [turn.peg for turn in turns if turn.sign == "-"]
    return Wish(inside, outside)


def table_row(company, name):
    """The row of a walker in the table."""
    return f"{name:<6}{company.load(name):>5}{len(company.stand(name)):>3}"
