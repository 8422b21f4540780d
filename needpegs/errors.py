"""The errors of the package: each keeps the very values that it was made with."""


class PegError(ValueError):
    """The base class of the errors, except NoPeg and NoWalker."""


class NoBoard(PegError):
    """No board can be made: the word tells why, and at which index."""

    def __init__(self, word, at):
        self.word = word
        self.at = at


class NoText(PegError):
    """A text is not what it should be, from this line or word on."""

    def __init__(self, line):
        self.line = line


class NoFamily(PegError):
    """A family of sets is not that of a board: the sets show it."""

    def __init__(self, word, sets):
        self.word = word
        self.sets = sets


class NoTurn(PegError):
    """The peg is already where the turn would bring it."""

    def __init__(self, peg):
        self.peg = peg


class Missing(PegError):
    """The peg needs another one that is out."""

    def __init__(self, peg, needed):
        self.peg = peg
        self.needed = needed


class Needed(PegError):
    """The peg is needed by another one that is in."""

    def __init__(self, peg, by):
        self.peg = peg
        self.by = by


class Barred(PegError):
    """Two pegs clash."""

    def __init__(self, peg, other):
        self.peg = peg
        self.other = other


class NoMatch(PegError):
    """Two things do not fit together: the word tells in what."""

    def __init__(self, word):
        self.word = word


class Stuck(PegError):
    """The turn with this index is not possible."""

    def __init__(self, at):
        self.at = at


class Unmet(PegError):
    """No stand meets a wish: the two pegs show it."""

    def __init__(self, word, peg, other):
        self.word = word
        self.peg = peg
        self.other = other


class Held(PegError):
    """The peg is held."""

    def __init__(self, peg):
        self.peg = peg


class Spent(PegError):
    """The budget does not allow this cost."""

    def __init__(self, cost):
        self.cost = cost


class NoDeed(PegError):
    """Nothing can be done with such a value: the word tells which."""

    def __init__(self, word):
        self.word = word


class Broken(PegError):
    """The item with this index cannot be done."""

    def __init__(self, at):
        self.at = at


class NoCommand(PegError):
    """The desk does not know such a command."""


class NoPeg(KeyError):
    """There is no such peg on the board."""

    def __init__(self, peg):
        self.peg = peg


class NoWalker(KeyError):
    """There is no such walker."""

    def __init__(self, name):
        self.name = name
