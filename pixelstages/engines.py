"""Engines: pictures of windows by tiles that are kept, and views of what was so."""

from pixelstages.chains import names_above
from pixelstages.errors import Busy, Closed, NoNumber, NoSource
from pixelstages.kinds import is_between, is_whole
from pixelstages.marks import cell_mark, together
from pixelstages.paints import changed_cells, check_dots, painted
from pixelstages.stages import source
from pixelstages.tiles import Asking, in_order, squares_of

SIDE = 8
ROOM = 64
MOST_TILE_SIDE = 16
MOST_ROOM = 1000


def check_most(most):
    if most is not None and not (is_whole(most) and most >= 0):
        raise NoNumber("most is a whole number from 0 on, or None")


def reaches(change, tile):
    """Whether a change, a tuple of a mark of cells painted and a dict of names, reaches a tile."""
    mark, names = change
    return tile.mark & mark != 0 or tile.place[0] in names


def serves(tile, state):
    return tile.since <= state <= tile.until


class View:
    """What an engine told when the view was opened."""

    def __init__(self, engine, number, state, then):
        self.engine = engine
        self.number = number
        self.state = state
        self.then = then
        self.is_ended = False

    def check_going(self):
        if self.is_ended:
            raise Closed("the view was closed")

    def ask(self, name, window, *, most=None):
        self.engine.check_free()
        self.check_going()
        return self.engine.answer(self.then, self.state, name, window, most)

    def net(self):
        self.check_going()
        return self.then.twin()

    def close(self):
        self.engine.check_free()
        self.check_going()
        self.is_ended = True
        self.engine.end_view(self.number)


class Engine:
    """A net whose stages are told by tiles.

    changes has a tuple (mark, names) of each change, so that their count is the number of the state of now; views the
    states of the open views by their numbers; tiles the kept ones by (name, i, j, since), the oldest first; slots the
    slots of all sources that ever were, by their names.
    """

    def __init__(self, net, *, side=SIDE, room=ROOM):
        if not (is_between(side, 1, MOST_TILE_SIDE) and is_between(room, 0, MOST_ROOM)):
            raise NoNumber("a side is a whole number from 1 to 16, a room from 0 to 1000")
        self.side = side
        self.room = room
        self.now = net.twin()
        self.changes = []
        self.views = {}
        self.many_views = 0
        self.tiles = {}
        self.slots = {}
        self.entries = []
        self.last_work = []
        self.last_asking = None
        self.last_state = 0
        self.busy = False
        self.give_slots()

    def give_slots(self):
        for name in self.now.names():
            if name not in self.slots and self.now.stage(name)[0] == "source":
                self.slots[name] = len(self.slots)

    def check_free(self):
        if self.busy:
            raise Busy("an asking goes on")
        self.settle()

    def ask(self, name, window, *, most=None):
        self.check_free()
        return self.answer(self.now, len(self.changes), name, window, most)

    def serving(self, state):
        """The dict of the tiles by their places that serve a state."""
        tiles = [self.tiles[key] for key in self.tiles]
        return {tile.place: tile for tile in tiles if serves(tile, state)}

    def answer(self, net, state, name, window, most):
        """The picture of a window of a stage of a state, whose net is handed in with it."""
        net.check_asked(name, window)
        check_most(most)
        asking = Asking(net, name, window, self.side, self.serving(state))
        self.entries.append(("begin", name, len(asking.used)))
        word = "refused"
        self.busy = True
        try:
            asking.reckon(self.slots, most)
            word = "end"
        finally:
            # An error may be any one, so what is due is only noted here, and done by settle.
            self.entries.append((word, name, asking.many))
            self.last_work = asking.reckoned_places
            self.last_asking = asking
            self.last_state = state
            self.busy = False
        self.settle()
        return asking.picture(name, window)

    def settle(self):
        """Keeps the tiles of the last asking, where that is still due."""
        asking = self.last_asking
        if asking is None:
            return
        self.last_asking = None
        for place in asking.used:
            if place in asking.tiles:
                self.keep(asking.tiles[place])
        for key in list(self.tiles)[:max(0, len(self.tiles) - self.room)]:
            del self.tiles[key]

    def keep(self, tile):
        """Keeps a tile as the newest one."""
        if tile.since is None:
            self.set_states(tile)
        key = (*tile.place, tile.since)
        self.tiles.pop(key, None)
        self.tiles[key] = tile

    def set_states(self, tile):
        first = last = self.last_state
        while first > 0 and not reaches(self.changes[first - 1], tile):
            first -= 1
        while last < len(self.changes) and not reaches(self.changes[last], tile):
            last += 1
        tile.since = first
        tile.until = last

    def change(self, net, mark, names):
        """Lets the net be another one, by a change that reaches tiles by a mark or by names."""
        self.now = net
        self.give_slots()
        state = len(self.changes)
        change = (mark, names)
        self.changes.append(change)
        for key in self.tiles:
            tile = self.tiles[key]
            if tile.until == state and not reaches(change, tile):
                tile.until = state + 1
        self.throw_out()

    def throw_out(self):
        """Throws out what serves neither the state of now nor that of an open view."""
        states = [len(self.changes)] + list(self.views.values())
        self.tiles = {key: self.tiles[key] for key in self.tiles
                      if any([serves(self.tiles[key], state) for state in states])}

    def paint(self, name, cells):
        self.check_free()
        stage = self.now.stage(name)
        if stage[0] != "source":
            raise NoSource("no source")
        picture, border = stage[1:]
        check_dots(picture, cells)
        new_picture = painted(picture, cells)
        changed = changed_cells(picture, new_picture)
        if changed:
            net, slot = self.now.twin(), self.slots[name]
            net.put(name, source(new_picture, border=border))
            self.change(net, together([cell_mark(slot, picture.window(), x, y) for x, y in changed]), {})

    def put(self, name, stage):
        self.check_free()
        net = self.now.twin()
        net.put(name, stage)
        if net != self.now:
            self.change(net, 0, {one: True for one in names_above(net.stages, name)})

    def drop(self, name):
        self.check_free()
        net = self.now.twin()
        net.drop(name)
        self.change(net, 0, {name: True})

    def net(self):
        return self.now.twin()

    def plan(self, name, window):
        self.check_free()
        self.now.check_asked(name, window)
        return Asking(self.now, name, window, self.side, self.serving(len(self.changes))).lacking

    def work(self):
        return list(self.last_work)

    def kept(self):
        self.settle()
        return in_order(self.now.stages, squares_of(list(self.serving(len(self.changes)))))

    def log(self):
        return list(self.entries)

    def is_busy(self):
        return self.busy

    def view(self):
        self.check_free()
        self.many_views += 1
        self.views[self.many_views] = len(self.changes)
        return View(self, self.many_views, len(self.changes), self.now.twin())

    def end_view(self, number):
        del self.views[number]
        self.throw_out()
