"""Families of sets: those that are the stands of a board, and what shows that one is not."""

from needpegs.errors import NoFamily
from needpegs.masks import mask_with, middle_mask, names_in, places_in

# The words of NoFamily, with the number of sets that show the reason.
SHOWN = {"empty": 0, "middle": 3, "fixed": 1}


def family_of(board):
    """The sets of pegs of all stands of a board."""
    return tuple([stand.pegs for stand in board.stands()])


def witness_holds(sets, word, value):
    """Whether NoFamily with this word and value is right for a family."""
    names, masks = told_family(sets)
    # Only the first reason that applies may be named, so every other word is wrong, whatever the value is.
    if word != first_reason(masks)[0]:
        return False
    rows = {names_in(names, mask): mask for mask in masks}
    if not isinstance(value, tuple) or len(value) != SHOWN[word] or any([row not in list(rows) for row in value]):
        return False
    return is_shown(masks, word, [rows[row] for row in value])


def is_shown(masks, word, chosen):
    """Whether some masks of a family, as many as the word asks for, show the reason with this word."""
    if word == "middle":
        return middle_mask(chosen[0], chosen[1], chosen[2]) not in masks
    return word == "empty" or is_fixed(masks, chosen[0])


def family_parts(sets):
    """The pegs, needs and bars of the board whose stands are the sets; raises NoFamily if there is none."""
    names, masks = told_family(sets)
    check_family(names, masks)
    many = len(names)
    pairs = [(place, other) for place in range(many) for other in range(many) if place != other]
    needs = [(names[place], names[other]) for place, other in pairs if always_with(masks, place, other)]
    bars = [(names[place], names[other]) for place, other in pairs if place < other and never_with(masks, place, other)]
    return names, needs, bars


def told_family(sets):
    """The names of a family in alphabetical order, and its sets as masks of them, each once."""
    names = sorted({name for row in sets for name in row})
    masks = sorted({mask_with([place for place, name in enumerate(names) if name in row]) for row in sets})
    return names, masks


def check_family(names, masks):
    """Raises NoFamily with the first reason that applies, if there is one."""
    word, shown = first_reason(masks)
    if word is not None:
        raise NoFamily(word, tuple([names_in(names, mask) for mask in shown]))


def first_reason(masks):
    """The word of the first reason against a family and masks that show it; None and no masks if there is none."""
    if 0 not in masks:
        return "empty", []
    apart = apart_masks(masks)
    if apart:
        return "middle", apart
    fixed = [mask for mask in masks if is_fixed(masks, mask)]
    return ("fixed", fixed[:1]) if fixed else (None, [])


def apart_masks(masks):
    """Some three masks whose middle is missing; none if there are no such three."""
    present = {mask: True for mask in masks}
    for at, one in enumerate(masks):
        for to, other in enumerate(masks[:at]):
            # The middle, written so that most of it is computed once for all third masks: there are many threes.
            shared, either = one & other, one | other
            lacking = [third for third in masks[:to] if shared | (third & either) not in present]
            if lacking:
                return [one, other, lacking[0]]
    return []


def is_fixed(masks, mask):
    """Whether a mask has places, and none of them can be left out within the family."""
    return mask != 0 and not any([mask ^ (1 << place) in masks for place in places_in(mask)])


def always_with(masks, place, other):
    """Whether each mask with a place has the other one, too."""
    return all([(mask >> other) & 1 for mask in masks if (mask >> place) & 1])


def never_with(masks, place, other):
    """Whether no mask has both places."""
    return not any([(mask >> place) & (mask >> other) & 1 for mask in masks])
