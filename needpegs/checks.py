"""Checks of the values from which a board is made, each for the reasons of NoBoard that it names."""

from needpegs.errors import NoBoard
from needpegs.names import right_name

LEAST_COST = 1
MOST_COST = 1000


def check_form(pegs, needs, bars, costs):
    """Raises "form" unless the four values are of the right kinds."""
    if not is_row(pegs) or not all([isinstance(peg, str) for peg in pegs]):
        raise NoBoard("form", 0)
    if not is_row_of_pairs(needs) or not is_row_of_pairs(bars):
        raise NoBoard("form", 0)
    if costs is not None and not is_row_of_integers(costs):
        raise NoBoard("form", 0)


def is_row(value):
    """Whether a value is a tuple or a list."""
    return isinstance(value, (tuple, list))


def is_row_of_pairs(value):
    """Whether a value is a tuple or list of tuples of two strings."""
    return is_row(value) and all([is_pair(item) for item in value])


def is_pair(value):
    """Whether a value is a tuple of two strings."""
    return isinstance(value, tuple) and len(value) == 2 and all([isinstance(item, str) for item in value])


def is_row_of_integers(value):
    """Whether a value is a tuple or list of integers."""
    return is_row(value) and all([isinstance(item, int) and not isinstance(item, bool) for item in value])


def check_pegs(pegs, most):
    """Raises "pegs" or "peg" unless the strings are different names, and not too many."""
    if len(pegs) > most:
        raise NoBoard("pegs", 0)
    for at, peg in enumerate(pegs):
        if not right_name(peg) or peg in pegs[:at]:
            raise NoBoard("peg", at)


def check_costs(costs, many):
    """Raises "costs" or "cost" unless each of so many pegs has a right cost."""
    if costs is None:
        return
    if len(costs) != many:
        raise NoBoard("costs", 0)
    for at, cost in enumerate(costs):
        if not right_cost(cost):
            raise NoBoard("cost", at)


def right_cost(cost):
    """Whether a peg may have this cost."""
    return LEAST_COST <= cost <= MOST_COST


def pair_places(word, pairs, places):
    """The pairs as pairs of places; raises the word unless each names two different pegs."""
    found = []
    for at, (one, other) in enumerate(pairs):
        if one not in places or other not in places or one == other:
            raise NoBoard(word, at)
        found.append((places[one], places[other]))
    return found
