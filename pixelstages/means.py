"""Means of blocks, and bands that are paired again.

Floors are made as told in geometry.
"""


def reduced_floor(stage, shape, of):
    wide, high = stage[2:]
    many = wide * high

    def tell(x, y):
        cells = [of[x * wide + i, y * high + j] for j in range(high) for i in range(wide)]
        return tuple([(2 * sum(numbers) + many) // (2 * many) for numbers in zip(*cells)])
    return tell


def enlarged_floor(stage, shape, of):
    wide, high = stage[2:]
    return lambda x, y: of[x // wide, y // high]


def pair_cells(across, x, y):
    """The two cells of which a cell of a band tells, that of a first."""
    if across:
        return (2 * x, y), (2 * x + 1, y)
    return (x, 2 * y), (x, 2 * y + 1)


def banded_floor(stage, shape, of, tell_pair):
    """The floor of a band that tells of a pair (a, b), and of how many numbers a depth has, by tell_pair."""
    across, tones = stage[2], shape[1] + 1

    def tell(x, y):
        one, other = pair_cells(across, x, y)
        return tuple([tell_pair(a, b, tones) for a, b in zip(of[one], of[other])])
    return tell


def far_of(a, b, tones):
    return (a - b) % tones


def near_of(a, b, tones):
    return (b + far_of(a, b, tones) // 2) % tones


def far_band_floor(stage, shape, of):
    return banded_floor(stage, shape, of, far_of)


def near_band_floor(stage, shape, of):
    return banded_floor(stage, shape, of, near_of)


def banded_cell(across, x, y):
    """The cell of the bands that tells of a cell, and whether this is the first of its pair."""
    if across:
        return (x // 2, y), x % 2 == 0
    return (x, y // 2), y % 2 == 0


def first_of(near, far, tones):
    return (near - far // 2 + far) % tones


def second_of(near, far, tones):
    return (near - far // 2) % tones


def paired_floor(stage, shape, near, far):
    across, tones = stage[3], shape[1] + 1

    def tell(x, y):
        cell, is_first = banded_cell(across, x, y)
        tell_one = first_of if is_first else second_of
        return tuple([tell_one(n, f, tones) for n, f in zip(near[cell], far[cell])])
    return tell


MEAN_FLOORS = {
    "reduced": reduced_floor, "enlarged": enlarged_floor, "near_band": near_band_floor, "far_band": far_band_floor,
    "paired": paired_floor,
}
