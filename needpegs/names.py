"""What a name is, and the text of a turn: modules ask for it that may not import each other."""

LETTERS = "abcdefghijklmnopqrstuvwxyz"
SIGNS = ("+", "-")


def right_name(text):
    """Whether a string is a name: one to six lower-case letters."""
    return 1 <= len(text) <= 6 and all([letter in LETTERS for letter in text])


def right_turn(text):
    """Whether a string is the text of a turn: a sign followed by a name."""
    return text[:1] in SIGNS and right_name(text[1:])
