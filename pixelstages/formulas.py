"""The shape and the floor of a stage, whatever its kind, of those of what it is made of."""

from pixelstages.colours import COLOUR_FLOORS, mixed_shape
from pixelstages.filters import FILTER_FLOORS
from pixelstages.geometry import GEOMETRY_FLOORS, curved_shape, source_shape
from pixelstages.joins import JOIN_FLOORS, own_shape
from pixelstages.means import MEAN_FLOORS
from pixelstages.pictures import Picture
from pixelstages.sums import SUM_FLOORS


def shape_of(stage, shape):
    """The (planes, depth) of a stage; shape is that of the first that it is made of (of a source None)."""
    kind = stage[0]
    if kind == "source":
        return source_shape(stage)
    if kind == "curved":
        return curved_shape(stage, shape)
    if kind == "mixed":
        return mixed_shape(stage, shape)
    if kind == "own":
        return own_shape(shape)
    return shape


def formula_of(kind):
    if kind in GEOMETRY_FLOORS:
        return GEOMETRY_FLOORS[kind]
    if kind in COLOUR_FLOORS:
        return COLOUR_FLOORS[kind]
    if kind in FILTER_FLOORS:
        return FILTER_FLOORS[kind]
    if kind in MEAN_FLOORS:
        return MEAN_FLOORS[kind]
    if kind in SUM_FLOORS:
        return SUM_FLOORS[kind]
    return JOIN_FLOORS[kind]


def floor_of(stage, shape, below):
    """The floor of a stage; shape is as in shape_of, below the list of the dicts of what it is made of."""
    formula = formula_of(stage[0])
    return formula(stage, shape, *below)


def picture_of(numbers, shape, window):
    """The picture of a window's numbers, told by a dict by cells."""
    left, up, wide, high = window
    planes, depth = shape
    rows = [[numbers[x, y] for x in range(left, left + wide)] for y in range(up, up + high)]
    told = tuple([tuple([tuple([number[plane] for number in row]) for row in rows]) for plane in range(planes)])
    return Picture(told, left=left, up=up, depth=depth)
