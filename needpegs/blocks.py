"""Blocks: what a company gives for a with statement, to hold pegs, to try deeds, or both."""


class Hold:
    """Pegs that are held within a block."""

    def __init__(self, company, pegs):
        self.company = company
        self.more = pegs
        self.holding = 0

    def __enter__(self):
        self.begin_hold()
        return self

    def __exit__(self, kind, value, trace):
        company = self.company
        company.holding = self.holding

    def begin_hold(self):
        """Holds the pegs besides those that are held."""
        company = self.company
        self.holding = company.holding
        company.holding = company.holding | self.more


class Trial:
    """Deeds that are made within a block, and taken back after it unless they are kept."""

    def __init__(self, company):
        self.company = company
        self.moment = company.moment
        self.floor = 0
        self.kept = None

    @property
    def paid(self):
        """The sum of the costs of the deeds made since the block began that stand."""
        return self.company.moment.costs - self.moment.costs

    def __enter__(self):
        self.begin_trial()
        return self

    def __exit__(self, kind, value, trace):
        company = self.company
        company.floor = self.floor
        if kind is not None or self.kept is None:
            company.moment = self.moment

    def keep(self):
        """Keeps the deeds if the block ends without an error."""
        self.kept = True

    def begin_trial(self):
        """Bars the deeds before this moment from being taken back."""
        company = self.company
        self.moment = company.moment
        self.floor = company.floor
        company.floor = len(company.moment.past)


class Guard(Trial, Hold):
    """A trial in whose block pegs are held."""

    def __init__(self, company, pegs):
        Trial.__init__(self, company)
        Hold.__init__(self, company, pegs)

    @property
    def paid(self):
        """The sum of the costs of the deeds made since the block began that stand."""
        return self.company.moment.costs - self.moment.costs

    def __enter__(self):
        self.begin_trial()
        self.begin_hold()
        return self

    def __exit__(self, kind, value, trace):
        company = self.company
        company.holding = self.holding
        company.floor = self.floor
        if kind is not None or self.kept is None:
            company.moment = self.moment

    def keep(self):
        """Keeps the deeds if the block ends without an error."""
        self.kept = True
