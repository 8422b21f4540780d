"""What a company keeps from one deed to the next."""


class Moment:
    """A company between two deeds. It never changes, so whoever keeps one can put it back."""

    def __init__(self, walkers, past, costs, limit):
        # By the name of each walker a pair of the stand and the load.
        self.walkers = walkers
        # For each deed that stands its item, its cost, and the walkers before it.
        self.past = past
        self.costs = costs
        self.limit = limit

    def with_deed(self, item, cost, walkers):
        """The moment after one more deed."""
        return Moment(walkers, self.past + ((item, cost, self.walkers),), self.costs + cost, self.limit)

    def without_last(self):
        """The moment in which the last deed is taken back."""
        _, cost, walkers = self.past[-1]
        return Moment(walkers, self.past[:-1], self.costs - cost, self.limit)

    def with_limit(self, limit):
        """The same moment with another budget."""
        return Moment(self.walkers, self.past, self.costs, limit)
