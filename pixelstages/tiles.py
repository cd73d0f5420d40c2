"""Tiles: squares of cells of stages; which of them an asking of a window uses, and what it reckons.

A place is a tuple (name, i, j) of a stage and the tile's numbers; squares are dicts by (i, j), of each stage by its
name. Stages are dicts of stages by their names.
"""

from pixelstages.chains import lowest_first
from pixelstages.errors import TooMuch
from pixelstages.formulas import floor_of, picture_of
from pixelstages.geometry import cells_of, source_floor
from pixelstages.marks import marker_of, source_marker, together
from pixelstages.readers import cells_read
from pixelstages.stages import made_of


class Tile:
    """The numbers and marks of a square by cells, and the first and the last state that it serves."""

    def __init__(self, place, numbers, marks):
        self.place = place
        self.numbers = numbers
        self.marks = marks
        self.mark = together([marks[cell] for cell in marks])
        self.since = None
        self.until = None


def is_source(stages, name):
    return stages[name][0] == "source"


def square_cells(i, j, side):
    return cells_of((i * side, j * side, side, side))


def squares_with(cells, side):
    """The dict of the squares that have one of the cells."""
    return {(x // side, y // side): True for x, y in cells}


def squares_of(places):
    """The squares of places, by the names of their stages."""
    squares = {name: {} for name, i, j in places}
    for name, i, j in places:
        squares[name][i, j] = True
    return squares


def levels_of(stages):
    """The dict of the levels of all stages but sources."""
    levels = {}
    for name in lowest_first(stages, list(stages)):
        if not is_source(stages, name):
            levels[name] = 1 + max([levels[of] for of in made_of(stages[name]) if of in levels], default=-1)
    return levels


def in_order(stages, squares):
    """The list of the places of squares, in the order in which tiles are reckoned; those of sources are left aside."""
    levels = levels_of(stages)
    # What is sorted keeps the net's order where levels are alike.
    names = sorted([name for name in stages if name in levels], key=lambda name: levels[name])
    return [(name, i, j) for name in names for j, i in sorted([(j, i) for i, j in squares.get(name, {})])]


def used_squares(stages, name, cells, side, serving):
    """Of each stage that an asking of cells uses: its squares; of a source the cells, that are read of it.

    serving has the places of which a tile is kept that serves.
    """
    order = lowest_first(stages, [name])
    used = {one: {} for one in order}
    used[name] = {cell: True for cell in cells} if is_source(stages, name) else squares_with(cells, side)
    for one in order[::-1]:
        if is_source(stages, one):
            continue
        lacking = [cell for i, j in used[one] if (one, i, j) not in serving for cell in square_cells(i, j, side)]
        read = cells_read(stages[one], lacking)
        for of in made_of(stages[one]):
            more = read if is_source(stages, of) else squares_with(read, side)
            for one_more in more:
                used[of][one_more] = True
    return used


class Asking:
    """An asking of a window of a stage of a net; many tells how many tiles were reckoned so far."""

    def __init__(self, net, name, window, side, serving):
        used = used_squares(net.stages, name, cells_of(window), side, serving)
        self.stages = net.stages
        self.shapes = net.shapes
        self.side = side
        self.used = in_order(net.stages, used)
        self.tiles = {place: serving[place] for place in self.used if place in serving}
        self.lacking = [place for place in self.used if place not in serving]
        self.source_cells = {one: list(used[one]) for one in used if is_source(net.stages, one)}
        self.many = 0
        self.reckoned_places = []
        # Of each stage its numbers and its marks by cells, and what tells both.
        self.told = {one: {} for one in used}
        self.marked = {one: {} for one in used}
        self.tellers = {}

    def read_sources(self, slots):
        for name in self.source_cells:
            stage = self.stages[name]
            floor, marker = source_floor(stage, None), source_marker(stage, slots[name])
            self.told[name] = {(x, y): floor(x, y) for x, y in self.source_cells[name]}
            self.marked[name] = {(x, y): marker(x, y) for x, y in self.source_cells[name]}

    def take(self, tile):
        """Lets the numbers and marks of a tile be read."""
        told, marked = self.told[tile.place[0]], self.marked[tile.place[0]]
        for cell in tile.numbers:
            told[cell] = tile.numbers[cell]
            marked[cell] = tile.marks[cell]

    def teller_of(self, name):
        """The floor and the marker of a stage, once all is told that it reads."""
        if name not in self.tellers:
            stage = self.stages[name]
            below = made_of(stage)
            floor = floor_of(stage, self.shapes[below[0]], [self.told[of] for of in below])
            self.tellers[name] = (floor, marker_of(stage, [self.marked[of] for of in below]))
        return self.tellers[name]

    def reckon_tile(self, place):
        name, i, j = place
        floor, marker = self.teller_of(name)
        cells = square_cells(i, j, self.side)
        numbers = {(x, y): floor(x, y) for x, y in cells}
        tile = Tile(place, numbers, {(x, y): marker(x, y) for x, y in cells})
        self.take(tile)
        self.tiles[place] = tile
        self.reckoned_places.append(place)
        self.many += 1

    def reckon(self, slots, most):
        """Reckons the tiles that lack, or the first most of them; NoTone, TooMuch and errors of own defs come out."""
        self.read_sources(slots)
        for place in list(self.tiles):
            self.take(self.tiles[place])
        many = len(self.lacking) if most is None else min(most, len(self.lacking))
        for place in self.lacking[:many]:
            self.reckon_tile(place)
        if many < len(self.lacking):
            raise TooMuch(many, len(self.lacking) - many)

    def picture(self, name, window):
        return picture_of(self.told[name], self.shapes[name], window)
