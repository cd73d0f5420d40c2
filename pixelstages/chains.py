"""What stages by names are made of, through others too; stages are dicts of stages by their names."""

from pixelstages.checks import fits
from pixelstages.errors import NoShape
from pixelstages.formulas import floor_of, shape_of
from pixelstages.readers import cells_read
from pixelstages.stages import made_of


def add_below(stages, name, done):
    if name in done:
        return
    for of in made_of(stages[name]):
        add_below(stages, of, done)
    done[name] = True


def lowest_first(stages, names):
    """The names and those of all that theirs are made of, each behind those that it is made of."""
    done = {}
    for name in names:
        add_below(stages, name, done)
    return list(done)


def names_above(stages, name):
    """The name and those of all that are made of its stage, through others too."""
    return [one for one in stages if name in lowest_first(stages, [one])]


def is_ring(stages, name, stage):
    """Whether a stage, put by this name, would be made of itself."""
    waiting, done = made_of(stage), {}
    while waiting:
        one = waiting.pop()
        if one == name:
            return True
        if one not in done:
            done[one] = True
            waiting.extend(made_of(stages[one]))
    return False


def shapes_of(stages):
    """The dict of the shapes of all stages; NoShape where one doesn't fit what it is made of."""
    shapes = {}
    for name in lowest_first(stages, list(stages)):
        stage = stages[name]
        below = [shapes[of] for of in made_of(stage)]
        if not fits(stage, below):
            raise NoShape("lengths or numbers that don't fit the planes or the depth of what a stage is made of")
        shapes[name] = shape_of(stage, below[0] if below else None)
    return shapes


def needed_cells(stages, name, cells):
    """Of the stage and each that it is made of, lowest first: the list of the cells that cells of the stage need."""
    order = lowest_first(stages, [name])
    needed, asked = {}, {one: [] for one in order}
    asked[name].append(cells)
    for one in order[::-1]:
        needed[one] = list({cell: True for part in asked[one] for cell in part})
        below = made_of(stages[one])
        read = cells_read(stages[one], needed[one]) if below else []
        for of in below:
            asked[of].append(read)
    return {one: needed[one] for one in order}


def told_numbers(stages, shapes, name, cells):
    """The dict of the numbers of cells of a stage, by the formulas alone; each number of a stage is reckoned once."""
    needed, told = needed_cells(stages, name, cells), {}
    for one in needed:
        below = made_of(stages[one])
        shape = shapes[below[0]] if below else None
        floor = floor_of(stages[one], shape, [told[of] for of in below])
        told[one] = {(x, y): floor(x, y) for x, y in needed[one]}
    return told[name]
