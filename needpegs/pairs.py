"""The pairs of pegs that tell a board: texts and boards made from boards use the same ones, in the same order."""


def need_pairs(board):
    """All pairs of a peg and one that it needs, also through others."""
    return [(peg, other) for peg in board.pegs for other in board.pegs if board.needs(peg, other)]


def clash_pairs(board):
    """All pairs of pegs that clash, each once, the earlier peg in board order first."""
    pegs = board.pegs
    return [(peg, other) for at, peg in enumerate(pegs) for other in pegs[at + 1:] if board.clash(peg, other)]
