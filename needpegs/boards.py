"""Boards: pegs in a fixed order, with their costs, what they need and with what they clash."""

from needpegs.checks import check_costs, check_form, check_pegs, pair_places
from needpegs.errors import NoBoard, NoMatch, NoPeg
from needpegs.families import family_parts
from needpegs.masks import joined, names_in, places_in
from needpegs.names import right_name
from needpegs.pairs import clash_pairs, need_pairs
from needpegs.relations import above_masks, below_masks, clash_masks, needs_order, stand_masks
from needpegs.stands import Stand
from needpegs.texts import text_parts


class Board:
    """A board. It never changes."""

    MOST = 12

    def __init__(self, pegs, *, needs=(), bars=(), costs=None):
        check_form(pegs, needs, bars, costs)
        check_pegs(pegs, Board.MOST)
        check_costs(costs, len(pegs))
        places = {peg: place for place, peg in enumerate(pegs)}
        below = below_masks(len(pegs), pair_places("need", needs, places))
        clash = clash_masks(below, pair_places("bar", bars, places))
        self._pegs = tuple(pegs)
        self._places = places
        self._costs = (1,) * len(pegs) if costs is None else tuple(costs)
        self._below = tuple(below)
        self._above = tuple(above_masks(below))
        self._clash = tuple(clash)
        self._order = tuple(needs_order(below))

    @staticmethod
    def is_name(text):
        """Whether a string is a name."""
        return right_name(text)

    @classmethod
    def read(cls, text):
        """The board that the lines of a text describe."""
        pegs, costs, needs, bars = text_parts(text, cls.MOST)
        return cls(pegs, needs=needs, bars=bars, costs=costs)

    @classmethod
    def of_family(cls, sets):
        """The board whose stands are these sets."""
        pegs, needs, bars = family_parts(sets)
        return cls(pegs, needs=needs, bars=bars)

    @property
    def pegs(self):
        """The pegs, in board order."""
        return self._pegs

    @property
    def empty(self):
        """The stand at which no peg is in."""
        return Stand(self, ())

    def __len__(self):
        return len(self._pegs)

    def __contains__(self, x):
        return x in self._places

    def __eq__(self, other):
        return (
            isinstance(other, Board)
            and self._pegs == other._pegs
            and self._costs == other._costs
            and self._below == other._below
            and self._clash == other._clash
        )

    def __repr__(self):
        return f"Board({len(self._pegs)} pegs)"

    def __add__(self, other):
        common = [peg for peg in other.pegs if peg in self._places]
        if any([self.cost_of(peg) != other.cost_of(peg) for peg in common]):
            raise NoMatch("cost")
        more = [peg for peg in other.pegs if peg not in self._places]
        costs = list(self._costs) + [other.cost_of(peg) for peg in more]
        needs = need_pairs(self) + need_pairs(other)
        bars = clash_pairs(self) + clash_pairs(other)
        try:
            return Board(list(self._pegs) + more, needs=needs, bars=bars, costs=costs)
        except NoBoard as error:
            # Of two right boards only "pegs", "circle" and "dead" are left, and Board finds them in this order.
            raise NoMatch(error.word) from None

    def __sub__(self, other):
        above = self.above(other)
        return self.only([peg for peg in self._pegs if peg not in above])

    def __call__(self, pegs):
        return Stand(self, pegs)

    def stand(self, *pegs):
        """The stand with these pegs in."""
        return Stand(self, pegs)

    def stands(self):
        """All stands, first those with fewer pegs."""
        for mask in self.masks_over(0, self.mask_of(self._pegs)):
            yield self.stand_at(mask)

    def count_stands(self):
        """The number of stands."""
        return len(self.masks_over(0, self.mask_of(self._pegs)))

    def cost_of(self, peg):
        """The cost of a peg."""
        return self._costs[self.place_of(peg)]

    def below(self, peg):
        """The peg and all pegs that it needs."""
        return self.pegs_of(self._below[self.place_of(peg)])

    def above(self, peg):
        """The peg and all pegs that need it."""
        return self.pegs_of(self._above[self.place_of(peg)])

    def needs(self, peg, other):
        """Whether a peg needs another one."""
        place, needed = self.place_of(peg), self.place_of(other)
        return place != needed and (self._below[place] >> needed) & 1 == 1

    def clash(self, peg, other):
        """Whether two pegs clash."""
        place, against = self.place_of(peg), self.place_of(other)
        return (self._clash[place] >> against) & 1 == 1

    def place_of(self, peg):
        """The place of a peg in the board order."""
        if peg not in self._places:
            raise NoPeg(peg)
        return self._places[peg]

    def mask_of(self, pegs):
        """The mask of some pegs."""
        mask = 0
        for peg in pegs:
            mask = mask | (1 << self.place_of(peg))
        return mask

    def pegs_of(self, mask):
        """The pegs in a mask, in board order."""
        return names_in(self._pegs, mask)

    def only(self, pegs):
        """The board of some of the pegs, with their needs and clashes among each other."""
        # Pairs tell also what pegs need through others, so nothing is lost with those that are left out.
        needs = [(peg, needed) for peg, needed in need_pairs(self) if peg in pegs and needed in pegs]
        bars = [(peg, barred) for peg, barred in clash_pairs(self) if peg in pegs and barred in pegs]
        return Board(pegs, needs=needs, bars=bars, costs=[self.cost_of(peg) for peg in pegs])

    def masks_over(self, start, free):
        """The masks of all stands that have the pegs of a stand in and of the others only some in a mask."""
        order = [place for place in self._order if (free >> place) & 1]
        return stand_masks(self._below, self._clash, order, start)

    def stand_at(self, mask):
        """The stand with the pegs in a mask."""
        return Stand(self, self.pegs_of(mask))

    def pegs_by_needs(self, mask):
        """The pegs in a mask, each behind those that it needs."""
        return [self._pegs[place] for place in self._order if (mask >> place) & 1]

    def cost_in(self, mask):
        """The sum of the costs of the pegs in a mask."""
        return sum([self._costs[place] for place in places_in(mask)])

    def below_mask(self, place):
        """The mask of below for the peg at a place."""
        return self._below[place]

    def above_mask(self, place):
        """The mask of above for the peg at a place."""
        return self._above[place]

    def clash_mask(self, place):
        """The mask of the pegs that clash with the peg at a place."""
        return self._clash[place]

    def below_all(self, mask):
        """The mask of the pegs in a mask and all that they need."""
        return joined(self._below, mask)

    def above_all(self, mask):
        """The mask of the pegs in a mask and all that need them."""
        return joined(self._above, mask)

    def clash_all(self, mask):
        """The mask of the pegs that clash with some peg in a mask."""
        return joined(self._clash, mask)
