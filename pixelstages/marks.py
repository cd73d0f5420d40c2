"""Marks: whole numbers whose bits stand for cells of sources, those from which a change comes to a cell.

Each source has a slot of its own, a number from 0 on, and so bits of its own. A marker is a function that tells of x
and y the mark there.
"""

from pixelstages.geometry import cells_of, comes_to, is_within
from pixelstages.kinds import MOST_SIDE
from pixelstages.readers import reader_of
from pixelstages.sums import from_corner


def cell_mark(slot, window, x, y):
    """The mark of one cell of the window of a source's picture."""
    left, up = window[:2]
    return 1 << ((slot * MOST_SIDE + y - up) * MOST_SIDE + x - left)


def source_marker(stage, slot):
    window, border = stage[1].window(), stage[2]

    def mark(x, y):
        cell = comes_to(window, border, x, y)
        return 0 if cell is None else cell_mark(slot, window, cell[0], cell[1])
    return mark


def either(mark, other):
    return mark | other


def together(marks):
    told = 0
    for mark in marks:
        told |= mark
    return told


def summed_marker(stage, of):
    window = stage[2]
    told = from_corner(window, of, 0, either)
    return lambda x, y: told(x, y) if is_within(window, x, y) else 0


def levelled_marker(stage, of):
    whole_window = together([of[cell] for cell in cells_of(stage[2])])
    return lambda x, y: whole_window | of[x, y]


def marker_of(stage, below):
    """The marker of a stage, no source; below is the list of the dicts of the marks of what it is made of."""
    if stage[0] == "summed":
        return summed_marker(stage, below[0])
    if stage[0] == "levelled":
        return levelled_marker(stage, below[0])
    reader = reader_of(stage)
    return lambda x, y: together([marks[cell] for cell in reader(x, y) for marks in below])
