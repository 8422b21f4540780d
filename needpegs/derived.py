"""Boards from a board and a wish, and from a board and one of its stands."""

from needpegs.boards import Board
from needpegs.errors import NoMatch
from needpegs.pairs import clash_pairs, need_pairs


def narrowed(board, wish):
    """The board of the pegs of which a wish leaves open whether they are in."""
    inside, outside = wish.forced(board)
    return board.only([peg for peg in board.pegs if peg not in inside and peg not in outside])


def widened(board, wish, stand):
    """The stand of a board that a stand of the narrowed board stands for."""
    if narrowed(board, wish) != stand.board:
        raise NoMatch("board")
    inside, _ = wish.forced(board)
    return board(inside + stand.pegs)


def seen_from(origin):
    """The board whose stands are the differences of all stands from one of them."""
    board = origin.board
    needs, bars = seen_needs(origin), seen_bars(origin)
    return Board(board.pegs, needs=needs, bars=bars, costs=[board.cost_of(peg) for peg in board.pegs])


def seen_needs(origin):
    """The pairs of a peg and one that it needs on the board that is seen from a stand."""
    # A peg that is in at the origin counts as in where it is out, so what needed it is turned about.
    pairs = need_pairs(origin.board)
    clashes = clash_pairs(origin.board)
    turned = [(other, peg) for peg, other in pairs if peg in origin]
    same = [(peg, other) for peg, other in pairs if other not in origin]
    # Of two pegs that clash one at most is in; the other one goes in only after this one has gone out.
    first = [(other, peg) for peg, other in clashes if peg in origin]
    second = [(peg, other) for peg, other in clashes if other in origin]
    return turned + same + first + second


def seen_bars(origin):
    """The pairs of pegs that bar each other on the board that is seen from a stand."""
    apart = [(peg, other) for peg, other in need_pairs(origin.board) if peg not in origin and other in origin]
    same = [(peg, other) for peg, other in clash_pairs(origin.board) if peg not in origin and other not in origin]
    return apart + same


def seen(stand, origin):
    """The stand of the board that is seen from another stand."""
    pegs = stand ^ origin
    board = seen_from(origin)
    return board(pegs)
