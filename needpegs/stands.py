"""Stands: sets of pegs that are in at the same time."""

from needpegs.errors import Barred, Missing, Needed, NoMatch, NoTurn
from needpegs.masks import first_place, middle_mask, places_in
from needpegs.turns import Put, Take
from needpegs.ways import Way


def check_needs(board, place, mask):
    """Raises Missing if the peg at a place needs one that is not in the mask."""
    missing = board.below_mask(place) & ~mask
    if missing != 0:
        raise Missing(board.pegs[place], board.pegs[first_place(missing)])


def check_bars(board, place, mask):
    """Raises Barred if the peg at a place clashes with one in the mask."""
    clashing = board.clash_mask(place) & mask
    if clashing != 0:
        raise Barred(board.pegs[place], board.pegs[first_place(clashing)])


class Stand:
    """A stand of a board. It never changes."""

    def __init__(self, board, pegs):
        mask = board.mask_of(pegs)
        for place in places_in(mask):
            check_needs(board, place, mask)
        for place in places_in(mask):
            check_bars(board, place, mask)
        self._board = board
        self._mask = mask
        self._pegs = board.pegs_of(mask)

    @property
    def board(self):
        """The board of the stand."""
        return self._board

    @property
    def pegs(self):
        """The pegs that are in, in board order."""
        return self._pegs

    @property
    def free(self):
        """The pegs that can be put in."""
        return tuple([peg for place, peg in enumerate(self._board.pegs) if self.can_put(place)])

    @property
    def loose(self):
        """The pegs that can be taken out."""
        return tuple([peg for place, peg in enumerate(self._board.pegs) if self.can_take(place)])

    def __len__(self):
        return len(self._pegs)

    def __contains__(self, x):
        return x in self._pegs

    def __bool__(self):
        return bool(self._pegs)

    def __eq__(self, other):
        return isinstance(other, Stand) and self._board == other._board and self._mask == other._mask

    def __repr__(self):
        return f"Stand({' '.join(self._pegs)})"

    def __and__(self, other):
        self.check_board(other)
        return self.beside(self._mask & other._mask)

    def __or__(self, other):
        self.check_board(other)
        for place in places_in(self._mask):
            check_bars(self._board, place, other._mask)
        return self.beside(self._mask | other._mask)

    def __xor__(self, other):
        self.check_board(other)
        return self._board.pegs_of(self._mask ^ other._mask)

    def __sub__(self, other):
        self.check_board(other)
        # What goes out goes first, so that nothing that goes in is barred; what is needed goes out last and in first.
        takes = [Take(peg) for peg in self._board.pegs_by_needs(other._mask & ~self._mask)[::-1]]
        puts = [Put(peg) for peg in self._board.pegs_by_needs(self._mask & ~other._mask)]
        return Way(self._board, takes + puts)

    def __add__(self, other):
        return other.after(self)

    def put(self, peg):
        """The stand after putting a peg in."""
        place = self._board.place_of(peg)
        if peg in self._pegs:
            raise NoTurn(peg)
        check_needs(self._board, place, self._mask | (1 << place))
        check_bars(self._board, place, self._mask)
        return self.beside(self._mask | (1 << place))

    def take(self, peg):
        """The stand after taking a peg out."""
        place = self._board.place_of(peg)
        if peg not in self._pegs:
            raise NoTurn(peg)
        left = self._mask ^ (1 << place)
        needing = self._board.above_mask(place) & left
        if needing != 0:
            raise Needed(peg, self._board.pegs[first_place(needing)])
        return self.beside(left)

    def within(self, other):
        """Whether every peg of this stand is in at the other one."""
        self.check_board(other)
        return self._mask & ~other._mask == 0

    def distance(self, other):
        """The cost of the pegs in which two stands differ."""
        self.check_board(other)
        return self._board.cost_in(self._mask ^ other._mask)

    def middle(self, one, other):
        """The stand of the pegs that are in at two of three stands at least."""
        self.check_board(one)
        self.check_board(other)
        return self.beside(middle_mask(self._mask, one._mask, other._mask))

    def is_between(self, one, other):
        """Whether this stand is between two others."""
        self.check_board(one)
        self.check_board(other)
        lacks = one._mask & other._mask & ~self._mask
        exceeds = self._mask & ~(one._mask | other._mask)
        return lacks == 0 and exceeds == 0

    def check_board(self, other):
        """Raises NoMatch unless the other stand is one of an equal board."""
        if self._board != other.board:
            raise NoMatch("board")

    def beside(self, mask):
        """The stand of the same board with the pegs in a mask."""
        return Stand(self._board, self._board.pegs_of(mask))

    def can_put(self, place):
        """Whether the peg at a place can be put in."""
        lacking = self._board.below_mask(place) & ~self._mask
        return lacking == 1 << place and self._board.clash_mask(place) & self._mask == 0

    def can_take(self, place):
        """Whether the peg at a place can be taken out."""
        return self._board.above_mask(place) & self._mask == 1 << place
