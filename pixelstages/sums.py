"""Sums from a corner, what undoes them, and levels.

Floors are made as told in geometry.
"""

from pixelstages.geometry import cells_of, is_within


def added(numbers, others):
    return tuple([number + other for number, other in zip(numbers, others)])


def from_corner(window, of, nothing, join):
    """A function that tells of a cell of the window all that of, a dict, has from the corner to it, joined to nothing.

    Only those are looked at that an asking needs, each once.
    """
    left, up = window[:2]
    rows, columns = {}, {}

    def along(x, y):
        joined = rows.setdefault(y, [nothing])
        while len(joined) <= x - left + 1:
            joined.append(join(joined[-1], of[left + len(joined) - 1, y]))
        return joined[x - left + 1]

    def tell(x, y):
        joined = columns.setdefault(x, [nothing])
        while len(joined) <= y - up + 1:
            joined.append(join(joined[-1], along(x, up + len(joined) - 1)))
        return joined[y - up + 1]
    return tell


def summed_floor(stage, shape, of):
    window, (planes, depth) = stage[2], shape
    sums = from_corner(window, of, (0,) * planes, added)

    def tell(x, y):
        if not is_within(window, x, y):
            return (0,) * planes
        return tuple([total % (depth + 1) for total in sums(x, y)])
    return tell


def unsummed_cells(x, y):
    """The four cells of which a difference is made, those that are added first."""
    return (x, y), (x - 1, y - 1), (x - 1, y), (x, y - 1)


def unsummed_floor(stage, shape, of):
    tones = shape[1] + 1

    def tell(x, y):
        cells = [of[cell] for cell in unsummed_cells(x, y)]
        return tuple([(a + b - c - d) % tones for a, b, c, d in zip(*cells)])
    return tell


def many_up_to(numbers, number):
    """How many of the rising numbers are no greater than a number."""
    low, high = 0, len(numbers)
    while low < high:
        middle = (low + high) // 2
        if numbers[middle] <= number:
            low = middle + 1
        else:
            high = middle
    return low


def levelled_floor(stage, shape, of):
    window, depth = stage[2], shape[1]
    cells = cells_of(window)
    # Filled by the first asking: of each plane the window's numbers, rising.
    levels = []

    def tell(x, y):
        if not levels:
            there = [of[cell] for cell in cells]
            levels.extend([sorted(numbers) for numbers in zip(*there)])
        return tuple([many_up_to(numbers, number) * depth // len(cells) for numbers, number in zip(levels, of[x, y])])
    return tell


SUM_FLOORS = {"summed": summed_floor, "unsummed": unsummed_floor, "levelled": levelled_floor}
