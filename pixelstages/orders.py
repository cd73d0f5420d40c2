"""Which stages may be exchanged, and what both ways about tell of a picture."""

from pixelstages.chains import told_numbers
from pixelstages.checks import is_by_nought, is_stage, table_fits
from pixelstages.errors import NoDivisor, NoPaper, NoPicture, NoStage, NoTone, NoWindow, TooWide
from pixelstages.kinds import is_cell, is_depth
from pixelstages.nets import Net
from pixelstages.pictures import DEPTH, Picture
from pixelstages.stages import made_of, source
from pixelstages.swaps import (
    added_places, are_weights_alike, curve_and_rank_apart, curves_apart, filter_apart, lifts_apart, moves_apart, power,
    rank_apart, ranks_apart)
from pixelstages.weighings import width_of

MOVES = ("moved", "flipped", "turned")
LIFTS = ("lifted", "unlifted")
# Of two stages the one whose kind stands first here is looked at as the first.
KINDS = ("moved", "flipped", "turned", "curved", "ranked", "filtered", "lifted", "unlifted")
MOST_ADDED = 12
MOST_TRIED = 4096
WIDEST_SWAP = 300


def check_both(one, other):
    if not (is_stage(one) and is_stage(other)):
        raise NoStage("no stage by itself alone")
    if is_by_nought(one) or is_by_nought(other):
        raise NoDivisor("a by of 0")


def in_place(one, other):
    """The two by the order of KINDS."""
    return (one, other) if KINDS.index(one[0]) <= KINDS.index(other[0]) else (other, one)


def is_table_right(stage, depth):
    """Whether it is no table, or one of this depth to this depth."""
    return stage[0] != "curved" or (table_fits(stage, depth) and stage[3] in (None, depth))


def are_lifts_few(one, other, depth):
    planes = len(one[2][0][1])
    return planes == len(other[2][0][1]) and power(depth + 1, planes) <= MOST_TRIED


def is_answered(one, other, depth):
    """Of two by the order of KINDS."""
    if not (is_table_right(one, depth) and is_table_right(other, depth)):
        return False
    if one[0] == "curved":
        return other[0] in ("curved", "ranked")
    if one[0] == "ranked":
        return other[0] == "ranked" and len(added_places(one, other)) <= MOST_ADDED
    if one[0] in LIFTS:
        return are_lifts_few(one, other, depth)
    return one[0] in MOVES


def is_too_wide(one, other, depth):
    if one[0] == "moved" or other[0] != "filtered" or are_weights_alike(one, other):
        return False
    return width_of([weight for row in other[2] for weight in row], depth) > WIDEST_SWAP


def apart_of(one, other, depth):
    """Numbers that tell both ways about apart, as in swaps, of two by the order of KINDS."""
    kinds = (one[0], other[0])
    if kinds[1] in MOVES:
        return moves_apart(one, other, depth)
    if kinds == ("curved", "curved"):
        return curves_apart(one, other)
    if kinds == ("curved", "ranked"):
        return curve_and_rank_apart(one, other)
    if kinds == ("ranked", "ranked"):
        return ranks_apart(one, other)
    if kinds[0] in LIFTS:
        return lifts_apart(one, other, depth)
    # What is left is moved, flipped or turned with one of another kind, and only flips and turns matter to places.
    if kinds[0] == "moved" or kinds[1] not in ("filtered", "ranked"):
        return None
    if kinds[1] == "ranked":
        return rank_apart(one, other)
    return None if are_weights_alike(one, other) else filter_apart(one, other, depth)


def picture_about(numbers, depth):
    """The least picture with these numbers, a dict by cells of tuples, and 0 elsewhere."""
    columns, rows = [x for x, y in numbers], [y for x, y in numbers]
    left, up = min(columns), min(rows)
    cells = [[(x, y) for x in range(left, max(columns) + 1)] for y in range(up, max(rows) + 1)]
    planes = max([len(numbers[cell]) for cell in numbers])
    nought = (0,) * planes
    told = tuple([tuple([tuple([numbers.get(cell, nought)[plane] for cell in row]) for row in cells])
                  for plane in range(planes)])
    return Picture(told, left=left, up=up, depth=depth)


def may_swap(one, other, *, depth=DEPTH):
    check_both(one, other)
    if not is_depth(depth):
        raise NoTone()
    if one[0] not in KINDS or other[0] not in KINDS:
        raise NoPaper("no two kinds that are answered")
    first, second = in_place(one, other)
    if not is_answered(first, second, depth):
        raise NoPaper("no two stages that are answered")
    if is_too_wide(first, second, depth):
        raise TooWide("depth times the sum of the weights without signs is above 300")
    numbers = apart_of(first, second, depth)
    return ("same", None) if numbers is None else ("unlike", picture_about(numbers, depth))


def upon_another(picture, low, top):
    """The net of a picture, beyond which 0 stands, the stage low made of it and top made of this one."""
    net = Net()
    net.put("in", source(picture, border=0))
    net.put("low", (low[0], "in") + low[2:])
    net.put("top", (top[0], "low") + top[2:])
    return net


def tried(one, other, picture, cell):
    check_both(one, other)
    if len(made_of(one)) != 1 or len(made_of(other)) != 1:
        raise NoPaper("no stages made of one")
    if not isinstance(picture, Picture):
        raise NoPicture("no picture")
    if not is_cell(cell):
        raise NoWindow("a cell is a pair of whole numbers from -1000000 to 1000000")
    nets = (upon_another(picture, other, one), upon_another(picture, one, other))
    return tuple([told_numbers(net.stages, net.shapes, "top", [cell])[cell] for net in nets])
