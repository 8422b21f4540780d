"""Wishes: pegs that must be in and pegs that must be out, on whatever board."""

from needpegs.errors import NoMatch, Unmet


class Wish:
    """A wish. It never changes."""

    def __init__(self, inside=(), outside=()):
        self._ins = tuple(sorted(set(inside)))
        self._outs = tuple(sorted(set(outside)))

    @property
    def inside(self):
        """The names of the pegs that must be in, in alphabetical order."""
        return self._ins

    @property
    def outside(self):
        """The names of the pegs that must be out, in alphabetical order."""
        return self._outs

    def __and__(self, other):
        return Wish(self._ins + other.inside, self._outs + other.outside)

    def __bool__(self):
        return bool(self._ins + self._outs)

    def __eq__(self, other):
        return isinstance(other, Wish) and self._ins == other._ins and self._outs == other._outs

    def __repr__(self):
        return f"Wish({' '.join(self.words())})"

    def __contains__(self, x):
        self.check_pegs(x.board)
        return all([peg in x for peg in self._ins]) and not any([peg in x for peg in self._outs])

    def __call__(self, stand):
        self.check_possible(stand.board)
        board = stand.board
        start, away = self.forced_masks(board)
        return board.stand_at(start | (board.mask_of(stand.pegs) & ~away))

    def words(self):
        """The names with their signs."""
        inside = [f"+{peg}" for peg in self._ins]
        outside = [f"-{peg}" for peg in self._outs]
        return [*inside, *outside]

    def obstacle(self, board):
        """What shows that no stand of a board meets the wish, or None."""
        self.check_pegs(board)
        needs = [("needs", peg, other) for peg in self._ins for other in self._outs if must_bring(board, peg, other)]
        bars = [("bars", peg, other) for peg in self._ins for other in self._ins if board.clash(peg, other)]
        return (needs + bars)[0] if needs or bars else None

    def obstacle_holds(self, board, value):
        """Whether a value is a triple that shows that no stand of a board meets the wish."""
        self.check_pegs(board)
        if not isinstance(value, tuple) or len(value) != 3:
            return False
        word, peg, other = value
        if word == "needs":
            return peg in self._ins and other in self._outs and must_bring(board, peg, other)
        return word == "bars" and peg in self._ins and other in self._ins and board.clash(peg, other)

    def forced(self, board):
        """The pegs that are in, and those that are out, at every stand that meets the wish."""
        self.check_possible(board)
        start, away = self.forced_masks(board)
        return board.pegs_of(start), board.pegs_of(away)

    def stands(self, board):
        """All stands of a board that meet the wish, first those with fewer pegs."""
        self.check_possible(board)
        start, away = self.forced_masks(board)
        for mask in board.masks_over(start, board.mask_of(board.pegs) & ~away):
            yield board.stand_at(mask)

    def forced_masks(self, board):
        """The masks of the pegs that are in, and of those that are out, at every stand that meets the wish."""
        start = board.below_all(board.mask_of(self._ins))
        away = board.above_all(board.mask_of(self._outs)) | board.clash_all(start)
        return start, away

    def check_pegs(self, board):
        """Raises NoPeg unless all names are pegs of a board."""
        for peg in self._ins + self._outs:
            board.place_of(peg)

    def check_possible(self, board):
        """Raises NoPeg, and Unmet unless some stand of a board meets the wish."""
        obstacle = self.obstacle(board)
        if obstacle is not None:
            word, peg, other = obstacle
            raise Unmet(word, peg, other)


def must_bring(board, peg, other):
    """Whether a peg is never in without another one."""
    return peg == other or board.needs(peg, other)


def gap(board, one, other):
    """Some pair of a stand that meets one wish and a stand that meets another one, as near as there are such."""
    one.check_pegs(board)
    other.check_pegs(board)
    # From any stand that meets the first wish to the nearest of the second and back: that is a nearest pair.
    far = other(one(board.empty))
    return one(far), far


def around(stands):
    """The wish for what all of some stands have in common."""
    if len(stands) == 0:
        raise NoMatch("none")
    for other in stands:
        stands[0].check_board(other)
    pegs = stands[0].board.pegs
    inside = [peg for peg in pegs if all([peg in stand for stand in stands])]
    outside = [peg for peg in pegs if not any([peg in stand for stand in stands])]
    return Wish(inside, outside)
