"""Which cells a cell reads of what its stage is made of, and how far a change of a source comes."""

from pixelstages.chains import needed_cells
from pixelstages.errors import NoPlace, NoSource, NoWindow
from pixelstages.geometry import cells_of, comes_to, is_within
from pixelstages.kinds import is_between, is_cell, is_window
from pixelstages.marks import either
from pixelstages.readers import cells_read, reader_of
from pixelstages.stages import made_of
from pixelstages.sums import from_corner


def reads(net, name, cell, *, which=0):
    stage = net.stage(name)
    if not is_cell(cell):
        raise NoWindow("a cell is a pair of whole numbers from -1000000 to 1000000")
    if not is_between(which, 0, len(made_of(stage)) - 1):
        raise NoPlace("no number of one that the stage is made of")
    rising = sorted([(y, x) for x, y in cells_read(stage, [cell])])
    return [(x, y) for y, x in rising]


def changed_of_source(stage, changed, cells):
    """Of the cells of a source those that read one of the changed cells of its picture, a dict."""
    window, border = stage[1].window(), stage[2]
    return {(x, y): True for x, y in cells if comes_to(window, border, x, y) in changed}


def changed_of_summed(stage, changed, cells):
    window = stage[2]
    marks = {cell: cell in changed for cell in cells_read(stage, cells)}
    is_changed = from_corner(window, marks, False, either)
    return {(x, y): True for x, y in cells if is_within(window, x, y) and is_changed(x, y)}


def changed_of_levelled(stage, changed, cells):
    if any([cell in changed for cell in cells_of(stage[2])]):
        return {cell: True for cell in cells}
    return {cell: True for cell in cells if cell in changed}


def changed_of(stage, changed, cells):
    """Of the cells of a stage, no source, those that read a changed cell of what it is made of: dicts of them."""
    if stage[0] == "summed":
        return changed_of_summed(stage, changed, cells)
    if stage[0] == "levelled":
        return changed_of_levelled(stage, changed, cells)
    reader = reader_of(stage)
    return {(x, y): True for x, y in cells if any([cell in changed for cell in reader(x, y)])}


def reached_cells(stages, source, changed, name, cells):
    """Of the cells of a stage, a dict of those to which a change of one of the changed cells of a source comes."""
    needed, told = needed_cells(stages, name, cells), {}
    for one in needed:
        stage = stages[one]
        if one == source:
            told[one] = changed_of_source(stage, changed, needed[one])
        else:
            below = {cell: True for of in made_of(stage) for cell in told[of]}
            told[one] = changed_of(stage, below, needed[one]) if below else {}
    return told[name]


def reached(net, source, cell, name, window):
    first = net.stage(source)
    net.stage(name)
    if first[0] != "source":
        raise NoSource("no source")
    if not (is_cell(cell) and is_within(first[1].window(), cell[0], cell[1])):
        raise NoWindow("no cell of the source's picture")
    if not is_window(window):
        raise NoWindow("a window is a tuple (left, up, wide, high) within its bounds")
    cells = cells_of(window)
    told = reached_cells(net.stages, source, {cell: True}, name, cells)
    return [one for one in cells if one in told]
