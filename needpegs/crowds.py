"""Crowds: walkers with stands and loads, and the best place for them to meet."""

from needpegs.errors import NoDeed, NoMatch, NoWalker
from needpegs.names import right_name
from needpegs.walkers import MOST_WALKERS, right_load
from needpegs.wishes import Wish


class Crowd:
    """A crowd of walkers on one board."""

    def __init__(self, board):
        self._board = board
        # Both by the names of the walkers, in the order in which they were added.
        self._spots = {}
        self._loads = {}

    @property
    def names(self):
        """The names of the walkers, in the order in which they were added."""
        return tuple(self._spots)

    @property
    def whole(self):
        """The sum of all loads."""
        return sum(list(self._loads.values()))

    def __len__(self):
        return len(self._spots)

    def __contains__(self, x):
        return x in self._spots

    def __iter__(self):
        raise TypeError("a crowd cannot be iterated")

    def __getitem__(self, at):
        self.check_walker(at)
        return self._spots[at]

    def __setitem__(self, at, worth):
        self.check_board(worth)
        if at not in self._spots:
            self.check_new(at)
            self._loads[at] = 1
        self._spots[at] = worth

    def load(self, name):
        """The load of a walker."""
        self.check_walker(name)
        return self._loads[name]

    def set_load(self, name, load):
        """Gives a walker another load."""
        self.check_walker(name)
        if not right_load(load):
            raise NoDeed("load")
        self._loads[name] = load

    def drop(self, name):
        """Removes a walker."""
        self.check_walker(name)
        del self._spots[name]
        del self._loads[name]

    def carried(self, peg):
        """The sum of the loads of the walkers at which a peg is in."""
        self._board.place_of(peg)
        return sum([self._loads[name] for name, stand in self._spots.items() if peg in stand])

    def total(self, stand):
        """The total of a stand."""
        self.check_board(stand)
        return sum([self._loads[name] * place.distance(stand) for name, place in self._spots.items()])

    def best(self, *, wish=None):
        """A best stand, among all stands or among those that meet a wish."""
        whole = self.whole
        pegs = [peg for peg in self._board.pegs if 2 * self.carried(peg) > whole]
        wanted = told_wish(wish)
        return wanted(self._board(pegs))

    def bound(self, *, wish=None):
        """The total of the best stands."""
        inside, outside = told_wish(wish).forced(self._board)
        return sum([self._board.cost_of(peg) * self.least_load(peg, inside, outside) for peg in self._board.pegs])

    def is_best(self, stand, *, wish=None):
        """Whether a stand is best, among all stands or among those that meet a wish."""
        self.check_board(stand)
        least = self.bound(wish=wish)
        return stand in told_wish(wish) and self.total(stand) == least

    def all_best(self, *, wish=None):
        """All best stands, first those with fewer pegs."""
        least = self.bound(wish=wish)
        wanted = told_wish(wish)
        for stand in wanted.stands(self._board):
            if self.total(stand) == least:
                yield stand

    def least_load(self, peg, inside, outside):
        """The least load for which a peg must be turned, where it may have to be in or out."""
        carried = self.carried(peg)
        rest = self.whole - carried
        if peg in inside:
            return rest
        return carried if peg in outside else min(carried, rest)

    def check_board(self, stand):
        """Raises NoMatch unless a stand is one of an equal board."""
        if self._board != stand.board:
            raise NoMatch("board")

    def check_walker(self, name):
        """Raises NoWalker unless there is a walker with a name."""
        if name not in self._spots:
            raise NoWalker(name)

    def check_new(self, name):
        """Raises NoDeed unless a walker with a new name may be added."""
        if not right_name(name):
            raise NoDeed("name")
        if len(self._spots) >= MOST_WALKERS:
            raise NoDeed("full")


def told_wish(wish):
    """The wish, or the one that every stand meets."""
    return Wish() if wish is None else wish
