"""What whole numbers, cells, windows and names are, of whatever is handed in."""

MOST_SIDE = 48
FARTHEST_EDGE = 1000
FARTHEST_CELL = 1000000
DEEPEST = 65535
LONGEST_NAME = 8


def is_whole(thing):
    # True and False are ints for Python, but no whole numbers here.
    return isinstance(thing, int) and not isinstance(thing, bool)


def is_between(thing, low, high):
    """Whether it is a whole number from low to high."""
    return is_whole(thing) and low <= thing <= high


def is_tuple(thing, least, most):
    """Whether it is a tuple of at least and at most so many."""
    return isinstance(thing, tuple) and least <= len(thing) <= most


def is_edge(thing):
    """Whether it may be the left or the up of a window."""
    return is_between(thing, -FARTHEST_EDGE, FARTHEST_EDGE)


def is_side(thing):
    """Whether it may be the wide or the high of a window."""
    return is_between(thing, 1, MOST_SIDE)


def is_depth(thing):
    return is_between(thing, 1, DEEPEST)


def is_cell(thing):
    if not is_tuple(thing, 2, 2):
        return False
    return all([is_between(number, -FARTHEST_CELL, FARTHEST_CELL) for number in thing])


def is_window(thing):
    if not is_tuple(thing, 4, 4):
        return False
    left, up, wide, high = thing
    return is_edge(left) and is_edge(up) and is_side(wide) and is_side(high)


def is_name(thing):
    if not isinstance(thing, str) or not 1 <= len(thing) <= LONGEST_NAME:
        return False
    return all(["a" <= letter <= "z" for letter in thing])
