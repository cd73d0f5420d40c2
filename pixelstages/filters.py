"""Rounded weights over the cells about a cell, and ranks among them.

Floors are made as told in geometry.
"""

from pixelstages.colours import rounded, summed_up


def weighed_places(weights):
    """The list of (dx, dy, weight) of the places with a weight that is not 0."""
    across, down = len(weights[0]) // 2, len(weights) // 2
    # A cell with a weight of 0 isn't read, so nothing there can be refused.
    return [(column - across, row - down, weight) for row, line in enumerate(weights)
            for column, weight in enumerate(line) if weight != 0]


def filtered_floor(stage, shape, of):
    weights, by, plus = stage[2:]
    planes, depth = shape
    places = weighed_places(weights)
    if not places:
        return lambda x, y: (rounded(0, by, plus, depth),) * planes
    kept_weights = [weight for dx, dy, weight in places]

    def tell(x, y):
        cells = [of[x + dx, y + dy] for dx, dy, weight in places]
        return tuple([rounded(summed_up(kept_weights, numbers), by, plus, depth) for numbers in zip(*cells)])
    return tell


def ranked_floor(stage, shape, of):
    form, rank = stage[2:]

    def tell(x, y):
        cells = [of[x + dx, y + dy] for dx, dy in form]
        return tuple([sorted(numbers)[rank] for numbers in zip(*cells)])
    return tell


FILTER_FLOORS = {"filtered": filtered_floor, "ranked": ranked_floor}
