"""Rows of stages: their plain forms, ways to these, and what tells rows apart."""

from pixelstages.errors import NoRow, NoTone
from pixelstages.kinds import is_depth
from pixelstages.pictures import DEPTH, Picture
from pixelstages.plains import cell_of, cell_reading, end_depth, plain_form, pose_of, table_of, told_row
from pixelstages.ways import is_step, steps_from

# Two unlike poses are unlike at one of these cells of the picture.
CORNERS = ((0, 0), (1, 0), (0, 1))


def check_depth(depth):
    if not is_depth(depth):
        raise NoTone()


def checked_row(thing, depth):
    """The row as it is told; NoRow of what is none."""
    row = told_row(thing, depth)
    if row is None:
        raise NoRow("no row of stages moved, flipped, turned, curved that fit the depth")
    return row


def plain(row, *, depth=DEPTH):
    check_depth(depth)
    return plain_form(checked_row(row, depth), depth)


def way(row, *, depth=DEPTH):
    check_depth(depth)
    return steps_from(checked_row(row, depth))


def is_told(thing, depth):
    """Whether it is a row just as it is told."""
    row = told_row(thing, depth)
    return row is not None and row == thing


def is_way(rows, *, depth=DEPTH):
    check_depth(depth)
    if not isinstance(rows, list) or len(rows) == 0:
        return False
    if not all([is_told(row, depth) for row in rows]):
        return False
    if not all([is_step(row, other) for row, other in zip(rows, rows[1:])]):
        return False
    return plain_form(rows[-1], depth) == rows[-1]


def telling_number(table, other):
    """A number, the least one, that may tell apart rows with these tables: one of which they tell unlike numbers, or,
    where they are the same, one of which they tell another number than of 0; 0 where there is none."""
    for number in range(len(table)):
        if table[number] != other[number]:
            return number
    for number in range(len(table)):
        if table[number] != table[0]:
            return number
    return 0


def dotted(cell, number, depth):
    """The picture of one cell."""
    return Picture((((number,),),), left=cell[0], up=cell[1], depth=depth)


def apart(row, other, *, depth=DEPTH):
    check_depth(depth)
    rows = (checked_row(row, depth), checked_row(other, depth))
    if end_depth(rows[0], depth) != end_depth(rows[1], depth):
        return (dotted((0, 0), 0, depth), (0, 0))
    poses, tables = [pose_of(one) for one in rows], [table_of(one, depth) for one in rows]
    number = telling_number(tables[0], tables[1])
    for dot in CORNERS:
        for cell in [cell_reading(pose, dot) for pose in poses]:
            told = [table[number if cell_of(pose, cell) == dot else 0] for pose, table in zip(poses, tables)]
            if told[0] != told[1]:
                return (dotted(dot, number, depth), cell)
    return None
