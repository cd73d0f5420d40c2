"""Two stages met, one of two chosen, and own defs.

Floors are made as told in geometry; of several that a stage is made of, the shape is that of the first.
"""

from pixelstages.colours import held
from pixelstages.errors import NoTone
from pixelstages.kinds import is_between


def least(number, other, depth):
    return min(number, other)


def greatest(number, other, depth):
    return max(number, other)


def held_sum(number, other, depth):
    return held(number + other, depth)


def gap(number, other, depth):
    return abs(number - other)


MEETING_RULES = {"least": least, "greatest": greatest, "sum": held_sum, "gap": gap}


def met_floor(stage, shape, of, other):
    rule = MEETING_RULES[stage[3]]
    depth = shape[1]
    return lambda x, y: tuple([rule(number, against, depth) for number, against in zip(of[x, y], other[x, y])])


def chosen_floor(stage, shape, of, other, mask):
    return lambda x, y: of[x, y] if mask[x, y][0] > 0 else other[x, y]


def own_shape(shape):
    return (1, shape[1])


def own_floor(stage, shape, of):
    own_tell, depth = stage[2], shape[1]

    def tell(x, y):
        number = own_tell(of[x, y])
        if not is_between(number, 0, depth):
            raise NoTone((x, y))
        return (number,)
    return tell


JOIN_FLOORS = {"met": met_floor, "chosen": chosen_floor, "own": own_floor}
