"""What needs and bars mean: for each place of the board order the masks of below, above and clash, and the stands."""

from needpegs.errors import NoBoard
from needpegs.masks import joined, mask_with, places_in


def below_masks(many, needs):
    """The masks of below; raises "circle" at the need by which a peg would need itself."""
    below = [1 << place for place in range(many)]
    for at, (peg, needed) in enumerate(needs):
        if (below[needed] >> peg) & 1:
            raise NoBoard("circle", at)
        # The rows are transitive before each need, so one step keeps them so.
        below = [row | below[needed] if (row >> peg) & 1 else row for row in below]
    return below


def above_masks(below):
    """The masks of above, from those of below."""
    return [rows_that_meet(below, 1 << place) for place in range(len(below))]


def clash_masks(below, bars):
    """The masks of the clashing pegs; raises "dead" for the first peg with two barred pegs below."""
    barred = barred_masks(len(below), bars)
    reach = [joined(barred, row) for row in below]
    for at, row in enumerate(below):
        if reach[at] & row != 0:
            raise NoBoard("dead", at)
    return [rows_that_meet(below, mask) for mask in reach]


def barred_masks(many, bars):
    """For each place the mask of the places that a bar names with it."""
    barred = [0] * many
    for one, other in bars:
        barred[one] = barred[one] | (1 << other)
        barred[other] = barred[other] | (1 << one)
    return barred


def rows_that_meet(rows, mask):
    """The mask of the places whose row has a place in common with a mask."""
    return mask_with([place for place, row in enumerate(rows) if row & mask != 0])


def needs_order(below):
    """The places, each behind those that it needs."""
    # A peg has more pegs below it than each peg that it needs.
    return [place for many, place in sorted([(len(places_in(row)), place) for place, row in enumerate(below)])]


def stand_masks(below, clash, order, start):
    """The masks of all stands that add some places of an order to a stand, first those of fewer places.

    The order has each place behind those that it needs.
    """
    masks = [start]
    for place in order:
        # A stand is still one without its last places of this order, so every stand grows from smaller ones.
        lone = 1 << place
        masks = masks + [mask | lone for mask in masks if below[place] & ~mask == lone and clash[place] & mask == 0]
    return sorted(masks, key=listing_key)


def listing_key(mask):
    """What puts masks in the order in which stands are listed."""
    places = places_in(mask)
    return len(places), places
