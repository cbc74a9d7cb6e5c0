"""What the other modules ask of things of any kind."""


def is_number(thing):
    """Whether thing is a whole number; a truth is none."""
    return isinstance(thing, int) and not isinstance(thing, bool)


def is_whole(thing, low, high):
    """Whether thing is a whole number from low to high."""
    return is_number(thing) and low <= thing <= high


def is_row(thing, fewest, most):
    """Whether thing is a tuple of fewest to most things."""
    return isinstance(thing, tuple) and fewest <= len(thing) <= most


def is_rising(things):
    """Whether each of things is less than the next, so that no two are alike."""
    return all([things[k] < things[k + 1] for k in range(len(things) - 1)])
