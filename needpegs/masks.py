"""Sets of pegs as integers: the bit 1 << place stands for the peg at that place of the board order."""


def places_in(mask):
    """The places in a mask, in board order."""
    return [place for place in range(mask.bit_length()) if (mask >> place) & 1]


def first_place(mask):
    """The first place in a mask that is not empty."""
    return places_in(mask)[0]


def mask_with(places):
    """The mask of different places."""
    return sum([1 << place for place in places])


def names_in(names, mask):
    """The names at the places in a mask."""
    return tuple([names[place] for place in places_in(mask)])


def middle_mask(one, two, three):
    """The mask of the places that are in two of three masks at least."""
    return (one & (two | three)) | (two & three)


def joined(rows, mask):
    """The mask of all places that are in some row at a place of the mask."""
    whole = 0
    for place in places_in(mask):
        whole = whole | rows[place]
    return whole
