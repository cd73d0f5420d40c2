"""What several tests need: wrong things of all kinds, the proof that none was changed, stages one upon another."""

import copy

from pixelstages.formulas import floor_of, shape_of
from pixelstages.pictures import Picture

OTHER_KINDS = (None, True, False, "", "a", "1", (), (1,), [], [1], [[1]], {}, {"a": 1}, {1: [2]})


def keeps(case, act, *things, **named):
    """Calls act of the things, and tells what it tells; fails where a thing is not as ahead."""
    ahead = copy.deepcopy((things, named))
    try:
        return act(*things, **named)
    finally:
        case.assertEqual((things, named), ahead)
        # An equal thing may still be another one, as True and 1 are.
        case.assertEqual(repr((things, named)), repr(ahead))


def refuses(case, error, act, *things, **named):
    """Fails but where act is refused with this very class, the things as ahead; tells the error."""
    with case.assertRaises(error) as caught:
        keeps(case, act, *things, **named)
    case.assertIs(type(caught.exception), error)
    return caught.exception


def upon(*stages):
    """The shape and the floor of the last stage, each being made of the one ahead of it."""
    shape, floors = None, []
    for stage in stages:
        floors = [floor_of(stage, shape, floors)]
        shape = shape_of(stage, shape)
    return shape, floors[0]


def joined(stage, *below):
    """The shape and the floor of a stage made of several, each of these told as (shape, floor)."""
    return shape_of(stage, below[0][0]), floor_of(stage, below[0][0], [floor for _, floor in below])


def spoilt(things, at, thing):
    """The tuple with another thing at a place."""
    return things[:at] + (thing,) + things[at + 1:]


def seen(case, window, *stages):
    """The planes that the last stage tells in the window, as those of a picture; the stages as ahead."""
    left, up, wide, high = window
    planes, depth = keeps(case, upon, *stages)[0]
    ahead = copy.deepcopy(stages)
    floor = upon(*stages)[1]
    rows = [[floor(x, y) for x in range(left, left + wide)] for y in range(up, up + high)]
    case.assertEqual(stages, ahead)
    told = tuple([tuple([tuple([numbers[p] for numbers in row]) for row in rows]) for p in range(planes)])
    # Made anew by its own refusals, so that kinds and bounds of what is told are looked at, too.
    case.assertEqual({len(numbers) for row in rows for numbers in row}, {planes})
    return Picture(told, left=left, up=up, depth=depth).planes


def some_planes(chance, planes, wide, high, depth):
    return tuple([tuple([tuple([chance.randint(0, depth) for _ in range(wide)]) for _ in range(high)])
                  for _ in range(planes)])


def rest(a, b):
    return a - a // b * b
