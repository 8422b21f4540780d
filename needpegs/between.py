"""Between two stands: the difference order, the cheapest ways, the stands on them, and the rounds."""

from needpegs.masks import mask_with
from needpegs.turns import Put, Take
from needpegs.ways import Way


def precedence(a, b):
    """All pairs of a peg and one behind it in the difference order of two stands."""
    pegs = a ^ b
    return tuple([(x, y) for x in pegs for y in pegs if comes_before(x, y, b)])


def comes_before(x, y, b):
    """Whether one peg in which two stands differ comes before another one, on the way to the second stand."""
    # What clashes with a peg clashes with all that need it, so nothing more follows by transitivity.
    if x in b:
        return y in b and b.board.needs(y, x)
    return b.board.clash(x, y) if y in b else b.board.needs(x, y)


def earlier_masks(a, b):
    """For each peg in which two stands differ the mask of those before it, by their indices in the difference."""
    pegs = a ^ b
    return [mask_with([at for at, x in enumerate(pegs) if comes_before(x, y, b)]) for y in pegs]


def open_places(earlier, done):
    """The indices that are not done, and before which all is done."""
    return [at for at, mask in enumerate(earlier) if not (done >> at) & 1 and mask & ~done == 0]


def turns_to(a, b):
    """For each peg in which two stands differ the turn that leads from the first to the second."""
    return [Put(peg) if peg in b else Take(peg) for peg in a ^ b]


def orders(a, b):
    """All cheapest ways from one stand to another."""
    earlier = earlier_masks(a, b)
    steps = turns_to(a, b)
    begun = [(0, ())]
    while begun:
        done, turns = begun.pop()
        if len(turns) == len(steps):
            yield Way(a.board, turns)
        for at in open_places(earlier, done):
            begun.append((done | (1 << at), turns + (steps[at],)))


def count_orders(a, b):
    """The number of the cheapest ways from one stand to another."""
    earlier = earlier_masks(a, b)
    # They may be too many to be made: those that have done the same so far are only counted.
    counts = {0: 1}
    for _ in earlier:
        counts = counts_after(earlier, counts)
    return sum(list(counts.values()))


def counts_after(earlier, counts):
    """How many rows have done what after one more turn."""
    after = {}
    for done, many in counts.items():
        for at in open_places(earlier, done):
            more = done | (1 << at)
            after[more] = after.get(more, 0) + many
    return after


def masks_between(a, b):
    """The masks of all stands between two stands."""
    board = a.board
    return board.masks_over(board.mask_of((a & b).pegs), board.mask_of(a ^ b))


def stands_between(a, b):
    """All stands between two stands, first those with fewer pegs."""
    for mask in masks_between(a, b):
        yield a.board.stand_at(mask)


def count_between(a, b):
    """The number of the stands between two stands."""
    return len(masks_between(a, b))


def places_by_round(earlier):
    """The indices in each round: all before them is done in earlier rounds, something of it in the one before."""
    done, rows = 0, []
    while open_places(earlier, done):
        rows.append(open_places(earlier, done))
        done = done | mask_with(rows[-1])
    return rows


def rounds(a, b):
    """The fewest rounds that lead from one stand to another, each turn in the first one in which it can be."""
    steps = turns_to(a, b)
    return tuple([tuple([steps[at] for at in row]) for row in places_by_round(earlier_masks(a, b))])


def longest_chain(a, b):
    """Some chain of the difference order with as many pegs as there are rounds."""
    earlier, pegs = earlier_masks(a, b), a ^ b
    chain = []
    for row in places_by_round(earlier)[::-1]:
        # Before a peg of each later round stands one of the round before it; any peg may be the last one.
        fitting = [at for at in row if not chain or (earlier[chain[0]] >> at) & 1]
        chain = fitting[:1] + chain
    return tuple([pegs[at] for at in chain])


def rounds_lead(a, b, value):
    """Whether a value is a tuple of tuples of turns that is a row of rounds from one stand to another."""
    a.check_board(b)
    if not isinstance(value, tuple) or not all([is_row_of_turns(row) for row in value]):
        return False
    stand = a
    for row in value:
        if not is_round(stand, row):
            return False
        stand = Way(stand.board, row).after(stand)
    return stand == b


def is_row_of_turns(value):
    """Whether a value is a tuple of turns."""
    return isinstance(value, tuple) and all([isinstance(item, (Put, Take)) for item in value])


def is_round(stand, row):
    """Whether a tuple of turns is a round from a stand: each order is possible if each order of each two is."""
    board = stand.board
    pegs = [turn.peg for turn in row]
    if len(pegs) == 0 or len(set(pegs)) < len(pegs):
        return False
    puts = [turn.peg for turn in row if turn.sign == "+"]
    takes = [turn.peg for turn in row if turn.sign == "-"]
    free, loose = stand.free, stand.loose
    if not all([peg in free for peg in puts]) or not all([peg in loose for peg in takes]):
        return False
    clashing = [peg for peg in puts for other in puts if board.clash(peg, other)]
    needing = [peg for peg in puts for other in takes if board.needs(peg, other)]
    return not clashing and not needing
