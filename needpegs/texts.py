"""Texts of boards: how a board is written, and what the lines of a text tell."""

from needpegs.checks import right_cost
from needpegs.errors import NoText
from needpegs.names import right_name
from needpegs.pairs import clash_pairs, need_pairs

DIGITS = "0123456789"

# Lines of a lower rank do not come after lines of a higher one.
RANKS = {"peg": 0, "needs": 1, "bars": 2}


def show_board(board):
    """The text of a board."""
    pegs = [f"peg {peg} {board.cost_of(peg)}" for peg in board.pegs]
    needs = [f"needs {peg} {other}" for peg, other in need_pairs(board)]
    bars = [f"bars {peg} {other}" for peg, other in clash_pairs(board)]
    return "\n".join(pegs + needs + bars)


def text_parts(text, most):
    """The pegs, costs, needs and bars that a text tells; raises NoText also if there are more pegs than the most."""
    rows = told_rows(text, most)
    pegs = [row[1] for row in rows if row[0] == "peg"]
    costs = [int(row[2]) for row in rows if row[0] == "peg"]
    needs = [(row[1], row[2]) for row in rows if row[0] == "needs"]
    bars = [(row[1], row[2]) for row in rows if row[0] == "bars"]
    return pegs, costs, needs, bars


def told_rows(text, most):
    """The words of each line; raises NoText with the index of the first line that is not allowed."""
    # Splitting the empty text would give one empty line, which is not allowed.
    lines = text.split("\n") if text != "" else []
    rows = []
    for at, line in enumerate(lines):
        row = line.split(" ")
        if not right_row(row, rows, most):
            raise NoText(at)
        rows.append(row)
    return rows


def right_row(row, before, most):
    """Whether the words of a line are allowed behind the lines before it."""
    if len(row) != 3 or RANKS.get(row[0], -1) < last_rank(before):
        return False
    pegs = [words[1] for words in before if words[0] == "peg"]
    if row[0] == "peg":
        return len(pegs) < most and right_name(row[1]) and row[1] not in pegs and right_cost_text(row[2])
    return row[1] in pegs and row[2] in pegs and row[1] != row[2]


def last_rank(rows):
    """The rank of the last line, or the least rank before the first line."""
    return RANKS[rows[-1][0]] if rows else 0


def right_cost_text(text):
    """Whether a string is the figure of a right cost."""
    return right_figure(text) and right_cost(int(text))


def right_figure(text):
    """Whether a string is a figure: one to four digits, the first of which is not 0."""
    return 1 <= len(text) <= 4 and text[0] != "0" and all([digit in DIGITS for digit in text])
