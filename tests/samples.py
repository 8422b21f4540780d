"""Boards for the tests, and what they must do, told a second time with sets of names."""

import itertools

from needpegs.boards import Board

PEGS = ("a", "b", "c", "d")
NEEDS = (("b", "a"), ("c", "a"))
BARS = (("b", "c"),)
COSTS = (1, 2, 3, 1)

# Values of all kinds, none of which is a right value in most places.
ODD = (
    None, True, False, 0, 1, -1, 10 ** 40, "", "a", "ab", "A", "\n", (), [], (None,), [None], ("a",), ["a"], ("a", "a"),
    ("a", 1), (("a",),), (("a", "b"),), [("a", "b")], (["a", "b"],), (("a", "b", "c"),), (1, True), (True,), [1, 1, 1],
    (((((((("a",),),),),),),),), [[[[[[[[]]]]]]]],
)


TWELVE = tuple("abcdefghijkl")


def example():
    """The board of the document's examples, made anew."""
    return Board(PEGS, needs=NEEDS, bars=BARS, costs=COSTS)


def caught(call, *values, **named):
    """The class of the error that a call raises and the values that the error keeps, or None."""
    try:
        call(*values, **named)
    except (ValueError, KeyError) as error:
        return (type(error).__name__, *vars(error).values())
    return None


def first_error(generator):
    """The error that a generator raises when its first value is asked for, or before, as above."""
    return caught(lambda: next(generator()))


class Model:
    """A board as sets of names, computed from the definitions alone."""

    def __init__(self, pegs, needs, bars):
        self.pegs = pegs
        self.below = {peg: self._below(peg, needs) for peg in pegs}
        self.bars = set(bars) | {(other, one) for one, other in bars}

    def _below(self, peg, needs):
        found = {peg}
        while True:
            more = {needed for one, needed in needs if one in found} - found
            if not more:
                return found
            found |= more

    def needs(self, peg, other):
        return peg != other and other in self.below[peg]

    def clash(self, peg, other):
        if peg == other:
            return False
        return any((p, q) in self.bars for p in self.below[peg] for q in self.below[other])

    def is_stand(self, pegs):
        closed = all(self.below[peg] <= set(pegs) for peg in pegs)
        return closed and not any(self.clash(one, other) for one, other in itertools.combinations(pegs, 2))

    def is_circular(self):
        return any(self.needs(one, other) and self.needs(other, one) for one in self.pegs for other in self.pegs)

    def is_dead(self, peg):
        return any((p, q) in self.bars for p in self.below[peg] for q in self.below[peg])

    def meets(self, pegs, inside, outside):
        return set(inside) <= set(pegs) and not set(outside) & set(pegs)

    def ordered(self, pegs):
        return tuple(peg for peg in self.pegs if peg in pegs)

    def subsets(self):
        for many in range(len(self.pegs) + 1):
            yield from itertools.combinations(self.pegs, many)

    def stands(self):
        return [pegs for pegs in self.subsets() if self.is_stand(pegs)]


def numbers(seed):
    """Disordered numbers without an end, the same ones for each seed."""
    while True:
        seed = (seed * 6364136223846793005 + 1442695040888963407) % 2 ** 64
        yield seed >> 33


def grown(many, seed, names="abcdefghijkl"):
    """The pegs, needs, bars and costs of a disordered board with so many pegs."""
    draw = numbers(seed * 100 + many)
    pegs = tuple(sorted(names, key=lambda name: next(draw))[:many])
    upward = sorted(pegs, key=lambda peg: next(draw))
    needs = tuple((one, other) for other, one in itertools.combinations(upward, 2) if next(draw) % 4 == 0)
    bars = ()
    for pair in itertools.permutations(pegs, 2):
        model = Model(pegs, needs, bars + (pair,))
        if next(draw) % 6 == 0 and not any(model.is_dead(peg) for peg in pegs):
            bars += (pair,)
    return pegs, needs, bars, tuple(next(draw) % 1000 + 1 for peg in pegs)


def grown_models(most, seeds):
    """Disordered boards with none to the most pegs, for so many seeds, each with its model."""
    for many, seed in itertools.product(range(most + 1), range(seeds)):
        pegs, needs, bars, costs = grown(many, seed)
        yield Board(pegs, needs=needs, bars=bars, costs=costs), Model(pegs, needs, bars)


def chosen(pairs):
    """All choices of some of the pairs."""
    for many in range(len(pairs) + 1):
        yield from itertools.combinations(pairs, many)


def models():
    """All boards of three pegs, and the example, each with its model."""
    pegs = ("x", "y", "z")
    for needs in chosen(tuple(itertools.permutations(pegs, 2))):
        for bars in chosen(tuple(itertools.combinations(pegs, 2))):
            model = Model(pegs, needs, bars)
            if not model.is_circular() and not any(model.is_dead(peg) for peg in pegs):
                yield Board(pegs, needs=needs, bars=bars, costs=(5, 7, 11)), model
    yield example(), Model(PEGS, NEEDS, BARS)


def strange_boards():
    """Boards that differ from the example in the order, one name, one cost, one need or one bar."""
    return (
        Board(("a", "c", "b", "d"), needs=NEEDS, bars=BARS, costs=(1, 3, 2, 1)),
        Board(("a", "b", "c", "e"), needs=NEEDS, bars=BARS, costs=COSTS),
        Board(PEGS, needs=NEEDS, bars=BARS, costs=(1, 2, 3, 2)),
        Board(PEGS, needs=NEEDS[:1], bars=BARS, costs=COSTS),
        Board(PEGS, needs=NEEDS, costs=COSTS),
    )


def example_again():
    """A board that equals the example, told in other words."""
    return Board(list(PEGS), needs=NEEDS[::-1] + NEEDS, bars=[("c", "b"), ("b", "c")], costs=list(COSTS))


def half_read(test, generator):
    """Leaves a generator at every place and asks anew; reads two at once."""
    whole = list(generator())
    for many in range(len(whole) + 1):
        left = generator()
        test.assertEqual([next(left) for _ in range(many)], whole[:many])
        test.assertEqual(list(generator()), whole)
        test.assertEqual(list(left), whole[many:])
    one, other = generator(), generator()
    test.assertEqual([pair for pair in zip(one, other)], [(value, value) for value in whole])
    return whole
