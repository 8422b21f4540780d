"""Forms of items: the words that items begin with, and the kinds of the values behind each word."""

from needpegs.names import right_turn

# The words of the deeds; the other words of the table are those that only plays know.
DEEDS = ("enter", "leave", "put", "take", "walk", "obey", "gather")

FORMS = {
    "enter": ("string", "integer"),
    "leave": ("string",),
    "put": ("string", "string"),
    "take": ("string", "string"),
    "walk": ("string", "turns"),
    "obey": ("string", "strings", "strings"),
    "gather": ("strings", "strings"),
    "undo": (),
    "spent": (),
    "held_pegs": (),
    "log": (),
    "budget": ("limit",),
    "stand": ("string",),
    "held": ("strings", "tuple"),
    "trial": ("tuple",),
    "guarded": ("strings", "tuple"),
    "keep": (),
    "paid": (),
}


def is_deed(item):
    """Whether a value describes a deed."""
    return has_form(item) and item[0] in DEEDS


def has_form(item):
    """Whether a value is a tuple of a word of the table and values of its kinds."""
    if not isinstance(item, tuple) or len(item) == 0 or not isinstance(item[0], str) or item[0] not in FORMS:
        return False
    kinds = FORMS[item[0]]
    return len(item) == len(kinds) + 1 and all([is_kind(value, kind) for value, kind in zip(item[1:], kinds)])


def is_kind(value, kind):
    """Whether a value is of a kind of the table."""
    if kind == "string":
        return isinstance(value, str)
    if kind == "integer":
        return is_integer(value)
    if kind == "limit":
        return value is None or is_integer(value)
    return isinstance(value, tuple) and (kind == "tuple" or all([is_part(part, kind) for part in value]))


def is_integer(value):
    """Whether a value is an integer; True and False are none."""
    return isinstance(value, int) and not isinstance(value, bool)


def is_part(value, kind):
    """Whether a value is a string, and the text of a turn where the kind asks for turns."""
    return isinstance(value, str) and (kind != "turns" or right_turn(value))
