"""What whole numbers, cells, windows, names and the things of stages are, of whatever is handed in."""

from pixelstages.stages import MIRRORED, NEAR, WRAPPED

MOST_PLANES = 4
MOST_SIDE = 48
FARTHEST_EDGE = 1000
FARTHEST_CELL = 1000000
DEEPEST = 65535
LONGEST_NAME = 8
FARTHEST_MOVE = 500
MOST_STEPS = 8
GREATEST_LIFT = 64
GREATEST_SHIFT = 8
GREATEST_WEIGHT = 1000
GREATEST_BY = 100000
MOST_FILTER_SIDE = 5
MOST_PLACES = 25
FARTHEST_PLACE = 4
MOST_BLOCK_SIDE = 8
MEETINGS = ("least", "greatest", "sum", "gap")


def is_whole(thing):
    # True and False are ints for Python, but no whole numbers here.
    return isinstance(thing, int) and not isinstance(thing, bool)


def is_between(thing, low, high):
    """Whether it is a whole number from low to high."""
    return is_whole(thing) and low <= thing <= high


def is_tuple(thing, least, most):
    """Whether it is a tuple of at least and at most so many."""
    return isinstance(thing, tuple) and least <= len(thing) <= most


def is_edge(thing):
    """Whether it may be the left or the up of a window."""
    return is_between(thing, -FARTHEST_EDGE, FARTHEST_EDGE)


def is_side(thing):
    """Whether it may be the wide or the high of a window."""
    return is_between(thing, 1, MOST_SIDE)


def is_depth(thing):
    return is_between(thing, 1, DEEPEST)


def is_cell(thing):
    if not is_tuple(thing, 2, 2):
        return False
    return all([is_between(number, -FARTHEST_CELL, FARTHEST_CELL) for number in thing])


def is_window(thing):
    if not is_tuple(thing, 4, 4):
        return False
    left, up, wide, high = thing
    return is_edge(left) and is_edge(up) and is_side(wide) and is_side(high)


def is_name(thing):
    if not isinstance(thing, str) or not 1 <= len(thing) <= LONGEST_NAME:
        return False
    return all(["a" <= letter <= "z" for letter in thing])


def is_truth(thing):
    return isinstance(thing, bool)


def is_tone(thing):
    """Whether it may be a number of some depth."""
    return is_between(thing, 0, DEEPEST)


def is_border(thing):
    return thing in (NEAR, WRAPPED, MIRRORED) or is_tone(thing)


def is_move(thing):
    return is_between(thing, -FARTHEST_MOVE, FARTHEST_MOVE)


def is_table(thing):
    if not is_tuple(thing, 2, DEEPEST + 1):
        return False
    # is_tone written out, as tables are long and looked at often.
    return all([isinstance(tone, int) and not isinstance(tone, bool) and 0 <= tone <= DEEPEST for tone in thing])


def is_new_depth(thing):
    return thing is None or is_depth(thing)


def are_weights(thing, most, greatest):
    """Whether it is a tuple of one to most whole numbers from -greatest to greatest."""
    return is_tuple(thing, 1, most) and all([is_between(weight, -greatest, greatest) for weight in thing])


def is_step(thing):
    if not is_tuple(thing, 3, 3):
        return False
    plane, weights, shift = thing
    if not (are_weights(weights, MOST_PLANES, GREATEST_LIFT) and is_between(shift, 0, GREATEST_SHIFT)):
        return False
    return is_between(plane, 0, len(weights) - 1) and weights[plane] == 0


def are_steps(thing):
    if not (is_tuple(thing, 1, MOST_STEPS) and all([is_step(step) for step in thing])):
        return False
    return len({len(weights) for plane, weights, shift in thing}) == 1


def are_rows(thing, most):
    """Whether it is a tuple of one to most rows of weights, each of one to most, alike many."""
    if not (is_tuple(thing, 1, most) and all([are_weights(row, most, GREATEST_WEIGHT) for row in thing])):
        return False
    # Only of tuples a length may be asked, so behind the look at all of them.
    return all([len(row) == len(thing[0]) for row in thing])


def is_mixing(thing):
    return are_rows(thing, MOST_PLANES)


def is_filter(thing):
    return are_rows(thing, MOST_FILTER_SIDE)


def is_by(thing):
    # 0 is let through here, as it has a refusal of its own.
    return is_between(thing, 0, GREATEST_BY)


def is_plus(thing):
    return is_between(thing, -DEEPEST, DEEPEST)


def is_place(thing):
    if not is_tuple(thing, 2, 2):
        return False
    return all([is_between(number, -FARTHEST_PLACE, FARTHEST_PLACE) for number in thing])


def is_form(thing):
    if not (is_tuple(thing, 1, MOST_PLACES) and all([is_place(place) for place in thing])):
        return False
    return len(set(thing)) == len(thing)


def is_rank(thing):
    return is_between(thing, 0, MOST_PLACES - 1)


def is_block(thing):
    return is_between(thing, 1, MOST_BLOCK_SIDE)


def is_meeting(thing):
    return thing in MEETINGS


def is_def(thing):
    """Whatever is handed in as a def isn't looked at."""
    return True


# Of the words in THINGS, but for pictures, which this file knows nothing of.
TESTS = {
    "name": is_name, "window": is_window, "border": is_border, "move": is_move, "truth": is_truth, "table": is_table,
    "new depth": is_new_depth, "steps": are_steps, "mixing": is_mixing, "filter": is_filter, "by": is_by,
    "plus": is_plus, "form": is_form, "rank": is_rank, "block": is_block, "meeting": is_meeting, "def": is_def,
}
