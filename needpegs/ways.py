"""Ways: rows of turns on one board, which lead from stand to stand."""

from needpegs.errors import NoMatch, NoPeg, NoText, PegError, Stuck
from needpegs.turns import Turn


def read_word(word, at):
    """The turn with this text, which is the word with an index."""
    try:
        return Turn.read(word)
    except NoText:
        raise NoText(at) from None


def step(stand, turn, at):
    """The stand after a turn, which is the turn with an index."""
    try:
        return turn.after(stand)
    except PegError:
        raise Stuck(at) from None


class Way:
    """A way on a board. It never changes."""

    def __init__(self, board, turns=()):
        for turn in turns:
            if turn.peg not in board:
                raise NoPeg(turn.peg)
        self._board = board
        self._turns = tuple(turns)

    @classmethod
    def read(cls, board, text):
        """The way whose turns are the words of a text."""
        words = text.split(" ") if text != "" else []
        turns = [read_word(word, at) for at, word in enumerate(words)]
        return cls(board, turns)

    @property
    def board(self):
        """The board of the way."""
        return self._board

    @property
    def turns(self):
        """The turns, in their order."""
        return self._turns

    def __len__(self):
        return len(self._turns)

    def __bool__(self):
        return bool(self._turns)

    def __abs__(self):
        return sum([self._board.cost_of(turn.peg) for turn in self._turns])

    def __neg__(self):
        return Way(self._board, [-turn for turn in self._turns[::-1]])

    def __add__(self, other):
        if self._board != other.board:
            raise NoMatch("board")
        return Way(self._board, self._turns + other.turns)

    def __eq__(self, other):
        return isinstance(other, Way) and self._board == other._board and self._turns == other._turns

    def __repr__(self):
        return f"Way({' '.join([repr(turn) for turn in self._turns])})"

    def __call__(self, stand):
        return self.after(stand)

    def after(self, stand):
        """The stand after all turns; operators use it, because they may not call an object."""
        self.check_board(stand)
        for at, turn in enumerate(self._turns):
            stand = step(stand, turn, at)
        return stand

    def stands(self, start):
        """The stand at the start and the stand after each turn."""
        self.check_board(start)
        yield start
        stand = start
        for at, turn in enumerate(self._turns):
            stand = step(stand, turn, at)
            yield stand

    def check_board(self, stand):
        """Raises NoMatch unless a stand is one of an equal board."""
        if self._board != stand.board:
            raise NoMatch("board")
