"""Companies: walkers who make deeds, which cost, are logged, and can be taken back."""

from needpegs.blocks import Guard, Hold, Trial
from needpegs.crowds import Crowd
from needpegs.deeds import do_deed
from needpegs.errors import Broken, Held, NoDeed, NoPeg, NoWalker, PegError, Spent
from needpegs.moments import Moment
from needpegs.names import right_name
from needpegs.walkers import MOST_WALKERS, right_load


class Company:
    """A company of walkers on one board."""

    def __init__(self, board, *, budget=None):
        self._board = board
        # These three are what blocks change: what is kept between deeds, the mask of the pegs that are held, and how
        # many deeds cannot be taken back because they were made before the innermost trial began.
        self.moment = Moment({}, (), 0, budget)
        self.holding = 0
        self.floor = 0

    @property
    def names(self):
        """The names of the walkers, in the order in which they entered."""
        return tuple(self.moment.walkers)

    @property
    def spent(self):
        """The sum of the costs of all deeds that stand."""
        return self.moment.costs

    @property
    def held_pegs(self):
        """The pegs that are held, in board order."""
        return self._board.pegs_of(self.holding)

    @property
    def budget(self):
        """What may be spent, or None."""
        return self.moment.limit

    @budget.setter
    def budget(self, value):
        if value is not None and value < self.moment.costs:
            raise NoDeed("budget")
        self.moment = self.moment.with_limit(value)

    def __len__(self):
        return len(self.moment.walkers)

    def __contains__(self, x):
        return x in self.moment.walkers

    def __repr__(self):
        return f"Company({len(self.moment.walkers)} walkers, {self.moment.costs} spent)"

    def enter(self, name, load=1):
        """Adds a walker with the empty stand."""
        walkers = self.moment.walkers
        if not right_name(name) or name in walkers:
            raise NoDeed("name")
        if not right_load(load):
            raise NoDeed("load")
        if len(walkers) >= MOST_WALKERS:
            raise NoDeed("full")
        return self.done(("enter", name, load), 0, {**walkers, name: (self._board.empty, load)})

    def leave(self, name):
        """Removes a walker."""
        self.check_walker(name)
        walkers = self.moment.walkers
        return self.done(("leave", name), 0, {other: walkers[other] for other in walkers if other != name})

    def put_in(self, name, peg):
        """Puts a peg in at a walker."""
        stand = self.stand(name)
        self.check_free([peg])
        return self.bring(("put", name, peg), {name: stand.put(peg)})

    def take_out(self, name, peg):
        """Takes a peg out at a walker."""
        stand = self.stand(name)
        self.check_free([peg])
        return self.bring(("take", name, peg), {name: stand.take(peg)})

    def walk(self, name, way):
        """Makes all turns of a way at a walker."""
        stand = self.stand(name)
        way.check_board(stand)
        self.check_free([turn.peg for turn in way.turns])
        texts = tuple([repr(turn) for turn in way.turns])
        after = stand + way
        # A way may be dearer than a cheapest one, so its own cost counts.
        return self.move(("walk", name, texts), self.load(name) * abs(way), {name: after})

    def obey(self, name, wish):
        """Moves a walker to the nearest stand that meets a wish."""
        stand = self.stand(name)
        return self.bring(("obey", name, wish.inside, wish.outside), {name: wish(stand)})

    def gather(self, *, wish=None):
        """Moves all walkers to a best stand, among all stands or among those that meet a wish."""
        best = self.crowd().best(wish=wish)
        inside, outside = ((), ()) if wish is None else (wish.inside, wish.outside)
        return self.bring(("gather", inside, outside), {name: best for name in self.moment.walkers})

    def undo(self):
        """Takes back the last deed that can be taken back, and tells whether there was one."""
        if len(self.moment.past) <= self.floor:
            return False
        before = self.moment.without_last()
        self.check_changes({name: stand for name, (stand, _) in before.walkers.items() if name in self.moment.walkers})
        self.moment = before
        return True

    def several(self, deeds, *, whole=True):
        """Makes the deeds that items describe, all of them or, where the whole is not asked for, the first ones."""
        before, costs = self.moment, []
        try:
            for item in deeds:
                costs.append(do_deed(self, item))
        except (PegError, NoPeg, NoWalker):
            if whole:
                self.moment = before
            raise Broken(len(costs)) from None
        return sum(costs)

    def log(self):
        """All deeds that stand, as items."""
        return [row[0] for row in self.moment.past]

    def stand(self, name):
        """The stand of a walker."""
        self.check_walker(name)
        return self.moment.walkers[name][0]

    def load(self, name):
        """The load of a walker."""
        self.check_walker(name)
        return self.moment.walkers[name][1]

    def crowd(self):
        """A new crowd of the same walkers."""
        crowd = Crowd(self._board)
        for name, (stand, load) in self.moment.walkers.items():
            crowd[name] = stand
            crowd.set_load(name, load)
        return crowd

    def copied(self):
        """A new company that is like this one, without holds and outside of all blocks."""
        company = Company(self._board)
        company.moment = self.moment
        return company

    def held(self, *pegs):
        """What holds pegs within the block of a with statement."""
        return Hold(self, self._board.mask_of(pegs))

    def trial(self):
        """What tries deeds within the block of a with statement."""
        return Trial(self)

    def guarded(self, *pegs):
        """What tries deeds and holds pegs within the block of a with statement."""
        return Guard(self, self._board.mask_of(pegs))

    def bring(self, item, goals):
        """Makes a deed that brings walkers to stands in a cheapest way; the stands go by the names."""
        self.check_changes(goals)
        cost = sum([self.load(name) * self.stand(name).distance(goal) for name, goal in goals.items()])
        return self.move(item, cost, goals)

    def move(self, item, cost, goals):
        """Makes a deed that moves walkers to stands for a cost; raises Spent if the budget does not allow it."""
        moment = self.moment
        if moment.limit is not None and moment.costs + cost > moment.limit:
            raise Spent(cost)
        walkers = {name: (goals.get(name, stand), load) for name, (stand, load) in moment.walkers.items()}
        return self.done(item, cost, walkers)

    def done(self, item, cost, walkers):
        """Makes a deed after which the walkers are these, and returns its cost."""
        self.moment = self.moment.with_deed(item, cost, walkers)
        return cost

    def check_walker(self, name):
        """Raises NoWalker unless there is a walker with a name."""
        if name not in self.moment.walkers:
            raise NoWalker(name)

    def check_free(self, pegs):
        """Raises NoPeg or Held for the first of some pegs that is none or is held."""
        for peg in pegs:
            if (self.holding >> self._board.place_of(peg)) & 1:
                raise Held(peg)

    def check_changes(self, goals):
        """Raises Held for the first peg, in board order, that is held and would change on the way to stands."""
        changes = [self.stand(name) ^ goal for name, goal in goals.items()]
        self.check_free([peg for peg in self._board.pegs if any([peg in pegs for pegs in changes])])
