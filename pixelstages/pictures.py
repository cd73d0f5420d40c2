"""Pictures: windows of whole numbers in planes."""

from pixelstages.errors import NoPicture, NoWindow
from pixelstages.kinds import MOST_PLANES, MOST_SIDE, is_between, is_depth, is_edge, is_tuple

DEPTH = 255


def are_planes(thing, depth):
    """Whether it may be the planes of a picture of this depth."""
    if not is_tuple(thing, 1, MOST_PLANES):
        return False
    if not all([is_tuple(plane, 1, MOST_SIDE) for plane in thing]):
        return False
    rows = [row for plane in thing for row in plane]
    if not all([is_tuple(row, 1, MOST_SIDE) for row in rows]):
        return False
    if len({len(plane) for plane in thing}) > 1 or len({len(row) for row in rows}) > 1:
        return False
    return all([is_between(number, 0, depth) for row in rows for number in row])


def by_blanks(numbers):
    return " ".join([str(number) for number in numbers])


class Picture:
    """A window of numbers from 0 to depth, in one to four planes."""

    def __init__(self, planes, *, left=0, up=0, depth=DEPTH):
        if not (is_edge(left) and is_edge(up)):
            raise NoPicture("left and up are whole numbers from -1000 to 1000")
        if not is_depth(depth):
            raise NoPicture("a depth is a whole number from 1 to 65535")
        if not are_planes(planes, depth):
            raise NoPicture("planes are tuples of alike many rows of alike many numbers from 0 to the depth")
        self.planes = planes
        self.left = left
        self.up = up
        self.depth = depth

    def window(self):
        first = self.planes[0]
        return self.left, self.up, len(first[0]), len(first)

    def at(self, x, y, *, plane=0):
        left, up, wide, high = self.window()
        if not (is_between(x, left, left + wide - 1) and is_between(y, up, up + high - 1)):
            raise NoWindow("no cell of the picture's window")
        if not is_between(plane, 0, len(self.planes) - 1):
            raise NoWindow("no plane of the picture")
        return self.planes[plane][y - up][x - left]

    def __eq__(self, other):
        return (isinstance(other, Picture) and self.planes == other.planes and self.left == other.left
                and self.up == other.up and self.depth == other.depth)

    def __len__(self):
        return len([number for row in self.planes[0] for number in row])

    def __str__(self):
        return "\n".join([by_blanks(row) for plane in self.planes for row in plane])

    def __repr__(self):
        return f"Picture({by_blanks(self.window())}, {len(self.planes)}, {self.depth})"
