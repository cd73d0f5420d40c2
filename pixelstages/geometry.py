"""Borders, sources, frames, moves, flips, turns and tables.

A floor is a function that tells of x and y the tuple of the numbers there, plane by plane. The floor of a stage
comes of the stage, the shape (planes, depth) of what it is made of, and the dict of such tuples of this by cells,
which has the cells that are read; a source is made of nothing, so its shape and floor come of it alone.
"""

from pixelstages.kinds import is_whole
from pixelstages.stages import NEAR, WRAPPED


def folded(border, at, many):
    """The place from 0 to many - 1 that stands for a place, within or beyond."""
    if border == NEAR:
        return min(max(at, 0), many - 1)
    if border == WRAPPED:
        return at % many
    rest = at % (2 * many)
    return rest if rest < many else 2 * many - 1 - rest


def is_within(window, x, y):
    left, up, wide, high = window
    return left <= x < left + wide and up <= y < up + high


def cells_of(window):
    """The list of the window's cells, rising, y first."""
    left, up, wide, high = window
    return [(x, y) for y in range(up, up + high) for x in range(left, left + wide)]


def comes_to(window, border, x, y):
    """The window's cell to which a cell of the floor comes; None where a whole number stands."""
    if is_within(window, x, y):
        return (x, y)
    if is_whole(border):
        return None
    left, up, wide, high = window
    return (left + folded(border, x - left, wide), up + folded(border, y - up, high))


def bordered(of, window, border, planes):
    """The floor that tells within the window what of has, and beyond it what the border makes of this."""
    def tell(x, y):
        cell = comes_to(window, border, x, y)
        if cell is None:
            return (border,) * planes
        return of[cell]
    return tell


def source_shape(stage):
    picture = stage[1]
    return (len(picture.planes), picture.depth)


def numbers_by_cells(picture):
    """The dict of the numbers of each cell of a picture, plane by plane."""
    flat = [[number for row in plane for number in row] for plane in picture.planes]
    return dict(zip(cells_of(picture.window()), list(zip(*flat))))


def source_floor(stage, shape):
    picture, border = stage[1:]
    return bordered(numbers_by_cells(picture), picture.window(), border, len(picture.planes))


def framed_floor(stage, shape, of):
    window, border = stage[2:]
    return bordered(of, window, border, shape[0])


def moved_floor(stage, shape, of):
    right, down = stage[2:]
    return lambda x, y: of[x - right, y - down]


def flipped_floor(stage, shape, of):
    if stage[2]:
        return lambda x, y: of[-x, y]
    return lambda x, y: of[x, -y]


def turned_floor(stage, shape, of):
    return lambda x, y: of[y, x]


def curved_shape(stage, shape):
    depth = stage[3]
    return shape if depth is None else (shape[0], depth)


def curved_floor(stage, shape, of):
    table = stage[2]
    return lambda x, y: tuple([table[number] for number in of[x, y]])


GEOMETRY_FLOORS = {
    "source": source_floor, "framed": framed_floor, "moved": moved_floor, "flipped": flipped_floor,
    "turned": turned_floor, "curved": curved_floor,
}
