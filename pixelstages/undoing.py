"""What undoes a stage."""

from pixelstages.checks import check_stage, table_fits
from pixelstages.errors import NoPaper, NoTone
from pixelstages.kinds import is_depth
from pixelstages.pictures import DEPTH
from pixelstages.stages import curved, flipped, lifted, moved, turned, unlifted


def least_alike(table):
    """The least pair of unlike numbers of which a table tells the same; None where there is none."""
    firsts, pairs = {}, []
    for number, told in enumerate(table):
        if told in firsts:
            pairs.append((firsts[told], number))
        else:
            firsts[told] = number
    return min(pairs, default=None)


def uncurved(stage, depth):
    """The stage that undoes one curved, whose table tells no two numbers the same."""
    table, new_depth = stage[2:]
    end = depth if new_depth is None else new_depth
    back = {told: number for number, told in enumerate(table)}
    # Where the table never comes any number will do.
    return curved("in", tuple([back.get(told, 0) for told in range(end + 1)]), depth=None if end == depth else depth)


def undone(stage, *, depth=DEPTH):
    check_stage(stage)
    if not is_depth(depth):
        raise NoTone()
    kind = stage[0]
    if kind == "moved":
        return ("by", moved("in", right=-stage[2], down=-stage[3]))
    if kind == "flipped":
        return ("by", flipped("in", across=stage[2]))
    if kind == "turned":
        return ("by", turned("in"))
    if kind == "lifted":
        return ("by", unlifted("in", stage[2]))
    if kind == "unlifted":
        return ("by", lifted("in", stage[2]))
    if kind != "curved" or not table_fits(stage, depth):
        raise NoPaper("no stage that a paper undoes")
    pair = least_alike(stage[2])
    return ("by", uncurved(stage, depth)) if pair is None else ("alike", pair[0], pair[1])
