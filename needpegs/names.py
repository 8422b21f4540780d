"""What a name is: boards and turns ask for it, and neither may import the other."""

LETTERS = "abcdefghijklmnopqrstuvwxyz"


def right_name(text):
    """Whether a string is a name: one to six lower-case letters."""
    return 1 <= len(text) <= 6 and all([letter in LETTERS for letter in text])
