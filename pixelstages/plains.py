"""Rows of stages moved, flipped, turned and curved, as they are told, and their plain forms.

A pose is what a row does to places: a tuple (is_turned, is_across, is_down, right, down), for turned, then flipped
across, then flipped down, then moved.
"""

from pixelstages.checks import is_stage, table_fits
from pixelstages.kinds import is_name, is_tuple, is_whole
from pixelstages.stages import curved, flipped, moved, turned

MOST_ROW = 40
ROW_KINDS = ("flipped", "turned", "curved")
NO_POSE = (False, False, False, 0, 0)


def is_any_move(thing):
    """Whether it is a stage moved, by whichever whole numbers."""
    if not is_tuple(thing, 4, 4) or thing[0] != "moved":
        return False
    return is_name(thing[1]) and is_whole(thing[2]) and is_whole(thing[3])


def is_row_stage(thing, depth):
    """Whether it is a stage for rows that fits pictures of this depth."""
    if is_any_move(thing):
        return True
    if not is_stage(thing) or thing[0] not in ROW_KINDS:
        return False
    return thing[0] != "curved" or table_fits(thing, depth)


def depth_behind(stage, depth):
    """The depth of a stage made of pictures of a depth."""
    return depth if stage[0] != "curved" or stage[3] is None else stage[3]


def told_stage(stage, depth):
    """The stage made of "in", None standing for a depth that stays."""
    if stage[0] == "curved":
        return curved("in", stage[2], depth=None if stage[3] == depth else stage[3])
    return (stage[0], "in") + stage[2:]


def told_row(thing, depth):
    """The row as it is told; None of what is no row of pictures of this depth."""
    if not isinstance(thing, list) or len(thing) > MOST_ROW:
        return None
    told = []
    for stage in thing:
        if not is_row_stage(stage, depth):
            return None
        told.append(told_stage(stage, depth))
        depth = depth_behind(stage, depth)
    return told


def pose_behind(pose, stage):
    """The pose of a row with one more stage behind it."""
    is_turned, is_across, is_down, right, down = pose
    if stage[0] == "moved":
        return (is_turned, is_across, is_down, right + stage[2], down + stage[3])
    if stage[0] == "turned":
        return (not is_turned, is_down, is_across, down, right)
    if stage[0] == "curved":
        return pose
    if stage[2]:
        return (is_turned, not is_across, is_down, -right, down)
    return (is_turned, is_across, not is_down, right, -down)


def table_of_tables(table, other):
    """The table that tells what the other one tells of what the first one tells."""
    return tuple([other[number] for number in table])


def pose_of(row):
    pose = NO_POSE
    for stage in row:
        pose = pose_behind(pose, stage)
    return pose


def table_of(row, depth):
    """What all tables of a row tell of the numbers to a depth."""
    table = tuple(range(depth + 1))
    for stage in row:
        if stage[0] == "curved":
            table = table_of_tables(table, stage[2])
    return table


def end_depth(row, depth):
    for stage in row:
        depth = depth_behind(stage, depth)
    return depth


def is_flat(table):
    """Whether a table tells one number alone."""
    return table.count(table[0]) == len(table)


def is_idle(table):
    """Whether a table tells each number itself."""
    return table[-1] == len(table) - 1 and table == tuple(range(len(table)))


def posed(pose):
    """The stages of a pose, each only where it does something."""
    is_turned, is_across, is_down, right, down = pose
    stages = [turned("in")] if is_turned else []
    if is_across:
        stages.append(flipped("in", across=True))
    if is_down:
        stages.append(flipped("in", across=False))
    if (right, down) != (0, 0):
        stages.append(moved("in", right=right, down=down))
    return stages


def plain_form(row, depth):
    """The plain form of a row that is told."""
    table, end = table_of(row, depth), end_depth(row, depth)
    curve = curved("in", table, depth=None if end == depth else end)
    if is_flat(table):
        return [curve]
    if end == depth and is_idle(table):
        return posed(pose_of(row))
    return posed(pose_of(row)) + [curve]


def cell_of(pose, cell):
    """The cell of the picture that a cell of a pose reads."""
    is_turned, is_across, is_down, right, down = pose
    x, y = cell[0] - right, cell[1] - down
    x = -x if is_across else x
    y = -y if is_down else y
    return (y, x) if is_turned else (x, y)


def cell_reading(pose, cell):
    """The cell of a pose that reads a cell of the picture."""
    is_turned, is_across, is_down, right, down = pose
    x, y = (cell[1], cell[0]) if is_turned else cell
    x = -x if is_across else x
    y = -y if is_down else y
    return (x + right, y + down)
