"""Which cells a cell of a stage reads; the same ones of each that the stage is made of.

A reader is a function that tells of x and y the list of these cells, some perhaps twice.
"""

from pixelstages.colours import reads_own_cell
from pixelstages.filters import weighed_places
from pixelstages.geometry import cells_of, comes_to, is_within
from pixelstages.means import banded_cell, pair_cells
from pixelstages.sums import unsummed_cells


def framed_reader(stage):
    window, border = stage[2:]

    def read(x, y):
        cell = comes_to(window, border, x, y)
        return [] if cell is None else [cell]
    return read


def moved_reader(stage):
    right, down = stage[2:]
    return lambda x, y: [(x - right, y - down)]


def flipped_reader(stage):
    if stage[2]:
        return lambda x, y: [(-x, y)]
    return lambda x, y: [(x, -y)]


def turned_reader(stage):
    return lambda x, y: [(y, x)]


def own_cell_reader(stage):
    return lambda x, y: [(x, y)]


def mixed_reader(stage):
    if reads_own_cell(stage[2]):
        return own_cell_reader(stage)
    return lambda x, y: []


def places_reader(places):
    return lambda x, y: [(x + dx, y + dy) for dx, dy in places]


def filtered_reader(stage):
    return places_reader([(dx, dy) for dx, dy, weight in weighed_places(stage[2])])


def ranked_reader(stage):
    return places_reader(stage[2])


def reduced_reader(stage):
    wide, high = stage[2:]
    return lambda x, y: cells_of((x * wide, y * high, wide, high))


def enlarged_reader(stage):
    wide, high = stage[2:]
    return lambda x, y: [(x // wide, y // high)]


def band_reader(stage):
    across = stage[2]
    return lambda x, y: list(pair_cells(across, x, y))


def paired_reader(stage):
    across = stage[3]
    return lambda x, y: [banded_cell(across, x, y)[0]]


def unsummed_reader(stage):
    return lambda x, y: list(unsummed_cells(x, y))


# All other kinds read their own cell alone, but for summed and levelled, which read too many cells one by one.
READERS = {
    "framed": framed_reader, "moved": moved_reader, "flipped": flipped_reader, "turned": turned_reader,
    "mixed": mixed_reader, "filtered": filtered_reader, "ranked": ranked_reader, "reduced": reduced_reader,
    "enlarged": enlarged_reader, "near_band": band_reader, "far_band": band_reader, "paired": paired_reader,
    "unsummed": unsummed_reader,
}


def reader_of(stage):
    """The reader of a stage that is neither a source nor summed nor levelled."""
    if stage[0] not in READERS:
        return own_cell_reader(stage)
    maker = READERS[stage[0]]
    return maker(stage)


def summed_cells(stage, cells):
    """The cells that cells of a stage summed read, each row of the window being gone through once."""
    left, up, wide, high = stage[2]
    ends = {}
    for x, y in cells:
        if is_within(stage[2], x, y):
            ends[y] = max(ends.get(y, x), x)
    read, end = [], left - 1
    for y in range(up + high - 1, up - 1, -1):
        end = max(end, ends.get(y, end))
        read.extend([(x, y) for x in range(left, end + 1)])
    return read


def levelled_cells(stage, cells):
    """The cells that cells of a stage levelled read: every one of them reads the window."""
    read = cells + cells_of(stage[2]) if cells else []
    return list({cell: True for cell in read})


def cells_read(stage, cells):
    """The list of the cells that the cells of a stage, no source, read of each that it is made of, each once."""
    if stage[0] == "summed":
        return summed_cells(stage, cells)
    if stage[0] == "levelled":
        return levelled_cells(stage, cells)
    reader = reader_of(stage)
    return list({cell: True for x, y in cells for cell in reader(x, y)})
