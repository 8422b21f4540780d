"""Turns: each puts one peg in or takes one peg out, on whatever board."""

from needpegs.errors import NoText
from needpegs.names import right_turn


class Turn:
    """The base class of the two classes of turns."""

    @staticmethod
    def read(text):
        """The turn with this text: a sign followed by a name."""
        if not right_turn(text):
            raise NoText(0)
        return Put(text[1:]) if text[0] == "+" else Take(text[1:])


class Put(Turn):
    """The turn that puts a peg in."""

    def __init__(self, peg):
        self.peg = peg
        self.sign = "+"

    def __call__(self, stand):
        return self.after(stand)

    def __neg__(self):
        return Take(self.peg)

    def __eq__(self, other):
        return isinstance(other, Put) and self.peg == other.peg

    def __repr__(self):
        return f"{self.sign}{self.peg}"

    def after(self, stand):
        """The stand after this turn; operators use it, because they may not call an object."""
        return stand.put(self.peg)


class Take(Turn):
    """The turn that takes a peg out."""

    def __init__(self, peg):
        self.peg = peg
        self.sign = "-"

    def __call__(self, stand):
        return self.after(stand)

    def __neg__(self):
        return Put(self.peg)

    def __eq__(self, other):
        return isinstance(other, Take) and self.peg == other.peg

    def __repr__(self):
        return f"{self.sign}{self.peg}"

    def after(self, stand):
        """The stand after this turn; operators use it, because they may not call an object."""
        return stand.take(self.peg)
