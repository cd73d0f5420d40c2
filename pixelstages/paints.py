"""Paintings: lists of tuples (x, y, plane, number) that change a picture."""

from pixelstages.errors import NoTone, NoWindow
from pixelstages.geometry import numbers_by_cells
from pixelstages.kinds import is_between, is_tuple
from pixelstages.pictures import Picture


def check_dot(picture, thing):
    if not is_tuple(thing, 4, 4):
        raise NoWindow("no tuple (x, y, plane, number)")
    x, y, plane, number = thing
    picture.at(x, y, plane=plane)
    if not is_between(number, 0, picture.depth):
        raise NoTone()


def check_dots(picture, thing):
    if not isinstance(thing, list):
        raise NoWindow("no list of tuples (x, y, plane, number)")
    for dot in thing:
        check_dot(picture, dot)


def painted(picture, dots):
    """The picture behind the dots, the later ones over the earlier."""
    planes = [[list(row) for row in plane] for plane in picture.planes]
    for x, y, plane, number in dots:
        planes[plane][y - picture.up][x - picture.left] = number
    told = tuple([tuple([tuple(row) for row in plane]) for plane in planes])
    return Picture(told, left=picture.left, up=picture.up, depth=picture.depth)


def changed_cells(picture, other):
    """The list of the cells of two pictures of one window that are unlike in some plane."""
    numbers, others = numbers_by_cells(picture), numbers_by_cells(other)
    return [cell for cell in numbers if numbers[cell] != others[cell]]
