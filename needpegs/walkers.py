"""What walkers may be like: crowds and companies ask for it."""

LEAST_LOAD = 1
MOST_LOAD = 1000
MOST_WALKERS = 8


def right_load(load):
    """Whether a walker may have this load."""
    return LEAST_LOAD <= load <= MOST_LOAD
