"""Promises 4 and 27 to 33 behind drawn histories: an engine against sets that are reckoned by the document's words."""

import copy
import random
import unittest

from helper import Words, inside, names_in, net_of, some_border, some_net, some_picture, some_stage, some_window
from pixelstages.engines import Engine
from pixelstages.errors import (
    Closed, Missing, NoDivisor, NoName, NoShape, NoSource, NoStage, NoTone, NoWindow, Ring, TooMany, TooMuch, Used)
from pixelstages.nets import Net
from pixelstages.pictures import Picture
from pixelstages.stages import moved, own, source

REFUSALS = (Missing, NoDivisor, NoName, NoShape, NoSource, NoStage, NoTone, NoWindow, Ring, TooMany, Used)
LETTERS = "abcdefghijklmnopqrstuvwxyz"


class OwnFault(Exception):
    """What an own def of a history raises."""


class KeptWords(Words):
    """The words, each reading being looked up but once."""

    def __init__(self, net):
        super().__init__(net)
        self.read = {}

    def reads(self, name, cell, which):
        if (name, cell, which) not in self.read:
            self.read[name, cell, which] = super().reads(name, cell, which)
        return self.read[name, cell, which]

    def is_source(self, name):
        return self.stages[name][0] == "source"

    def is_above(self, name, below):
        """Whether a stage is the one below, or made of it, through others too."""
        return name in self.stages and (
            name == below or any([self.is_above(of, below) for of in names_in(self.stages[name])]))

    def level(self, name):
        others = [self.level(of) for of in names_in(self.stages[name]) if not self.is_source(of)]
        return 1 + max(others) if others else 0

    def place_key(self, place):
        name, i, j = place
        return (self.level(name), list(self.stages).index(name), j, i)


class Paper:
    """What 27 to 33 tell: sets and lists, reckoned anew each time."""

    def __init__(self, net, side, room):
        self.side, self.room = side, room
        self.words = [KeptWords(net)]
        self.nets = [net]
        self.changes = []
        # Pairs of a place and the state of which its tile was reckoned, the oldest first.
        self.tiles = []
        self.views = []
        self.worked, self.entries = [], []
        self.come = {}

    def now(self):
        return len(self.changes)

    def cells(self, place):
        name, i, j = place
        return inside((i * self.side, j * self.side, self.side, self.side))

    def reaches(self, number, place):
        """Whether the change that made state number of the one ahead reaches a tile."""
        if (number, place) not in self.come:
            self.come[number, place] = self.reaches_by_words(number, place)
        return self.come[number, place]

    def reaches_by_words(self, number, place):
        kind, name, cells = self.changes[number - 1]
        ahead, behind = self.words[number - 1], self.words[number]
        if kind == "drop":
            return place[0] == name
        if kind == "put":
            return ahead.is_above(place[0], name) or behind.is_above(place[0], name)
        if place[0] not in ahead.stages:
            return False
        return any([ahead.comes(name, cell, place[0], x, y, self.come.setdefault((number, cell), {}))
                    for cell in cells for x, y in self.cells(place)])

    def serves(self, tile, state):
        place, reckoned = tile
        low, high = min(reckoned, state), max(reckoned, state)
        return not any([self.reaches(number, place) for number in range(low + 1, high + 1)])

    def serving(self, state):
        return {tile[0] for tile in self.tiles if self.serves(tile, state)}

    def used(self, state, name, window):
        words, serving = self.words[state], self.serving(state)
        used, waiting = set(), []
        if not words.is_source(name):
            waiting = [(name, x // self.side, y // self.side) for x, y in inside(window)]
        while waiting:
            place = waiting.pop()
            if place in used:
                continue
            used.add(place)
            if place not in serving:
                for which, of in enumerate(names_in(words.stages[place[0]])):
                    if not words.is_source(of):
                        read = {cell for one in self.cells(place) for cell in words.reads(place[0], one, which)}
                        waiting += {(of, x // self.side, y // self.side) for x, y in read}
        return sorted(used, key=words.place_key), serving

    def plan(self, state, name, window):
        used, serving = self.used(state, name, window)
        return [place for place in used if place not in serving]

    def fault(self, state, place):
        """The cells of a tile of an own stage for which the def doesn't tell a number."""
        words = self.words[state]
        stage = words.stages[place[0]]
        if stage[0] != "own":
            return []
        planes, depth = words.shape(stage[1])
        wrong = []
        for x, y in self.cells(place):
            try:
                told = stage[2](tuple([words.number(stage[1], x, y, p) for p in range(planes)]))
            except OwnFault:
                return [OwnFault]
            if type(told) is not int or not 0 <= told <= depth:
                wrong.append((x, y))
        return wrong

    def ask(self, state, name, window, most):
        """What is told: a picture, or a tuple of the class of a refusal and its fields."""
        used, serving = self.used(state, name, window)
        lacking = [place for place in used if place not in serving]
        done, told = [], None
        for place in lacking[:most]:
            wrong = self.fault(state, place)
            if wrong:
                told = (OwnFault,) if wrong == [OwnFault] else (NoTone, wrong)
                break
            done.append(place)
        if told is None and len(done) < len(lacking):
            told = (TooMuch, len(done), len(lacking) - len(done))
        self.entries.append(("begin", name, len(used)))
        self.entries.append(("end" if told is None else "refused", name, len(done)))
        self.worked = done
        for place in used:
            mine = [tile for tile in self.tiles if tile[0] == place and self.serves(tile, state)]
            if mine or place in done:
                self.tiles = [tile for tile in self.tiles if tile not in mine]
                self.tiles.append(mine[0] if mine else (place, state))
        self.tiles = self.tiles[max(0, len(self.tiles) - self.room):]
        return self.words[state].picture(name, window) if told is None else told

    def change(self, net, kind, name, cells=()):
        self.nets.append(net)
        self.words.append(KeptWords(net))
        self.changes.append((kind, name, cells))
        self.throw_out()

    def throw_out(self):
        states = {self.now(), *self.views}
        self.tiles = [tile for tile in self.tiles if any([self.serves(tile, state) for state in states])]

    def kept(self):
        return sorted(self.serving(self.now()), key=self.words[-1].place_key)


def painted(net, name, cells):
    """A net with a source painted, and the cells that are other ones."""
    picture, border = net.stage(name)[1:]
    numbers = {(x, y, p): picture.at(x, y, plane=p) for x, y in inside(picture.window())
               for p in range(len(picture.planes))}
    ahead = dict(numbers)
    for x, y, plane, number in cells:
        numbers[x, y, plane] = number
    left, up, wide, high = picture.window()
    planes = tuple([tuple([tuple([numbers[x, y, p] for x in range(left, left + wide)]) for y in range(up, up + high)])
                    for p in range(len(picture.planes))])
    other = copy.deepcopy(net)
    other.put(name, source(Picture(planes, left=left, up=up, depth=picture.depth), border=border))
    return other, sorted({key[:2] for key in numbers if numbers[key] != ahead[key]})


class Histories(unittest.TestCase):
    def start(self, chance, net, side, room):
        self.chance = chance
        self.engine = Engine(net, side=side, room=room)
        self.paper = Paper(copy.deepcopy(net), side, room)
        self.views = []
        self.other_dots = None

    def as_told(self):
        engine, paper = self.engine, self.paper
        self.assertEqual(engine.work(), paper.worked)
        self.assertEqual(engine.kept(), paper.kept())
        self.assertEqual(engine.log(), paper.entries)
        self.assertEqual(engine.net(), paper.nets[-1])
        self.assertIs(engine.is_busy(), False)
        # How many are kept in all isn't told, but seen by which go first.
        self.assertLessEqual(len(paper.tiles), paper.room)

    def ask(self):
        chance, paper = self.chance, self.paper
        asker, state = self.engine, paper.now()
        if self.views and chance.random() < 0.4:
            asker, state = chance.choice(self.views)
        name = chance.choice(paper.nets[state].names()[-4:])
        # Mostly about the middle, so that many tiles are asked for again.
        window = chance.choice(((-2, -1, 4, 4), (0, 0, 3, 2), (-1, -2, 2, 5), some_window(chance, most=6)))
        if state == paper.now():
            self.assertEqual(self.engine.plan(name, window), paper.plan(state, name, window))
            self.as_told()
        many = len(paper.plan(state, name, window))
        most = chance.choice((None, None, None, many, many + 1, 1000, max(0, many - 1), many // 2, 0))
        wanted = paper.ask(state, name, window, most)
        if isinstance(wanted, Picture):
            self.assertEqual(asker.ask(name, window, most=most), wanted)
            self.assertEqual(asker.net().whole(name, window), wanted)
        else:
            with self.assertRaises(wanted[0]) as caught:
                asker.ask(name, window, most=most)
            if wanted[0] is NoTone:
                self.assertIn(caught.exception.cell, wanted[1])
            elif wanted[0] is TooMuch:
                self.assertEqual((caught.exception.reckoned, caught.exception.left), wanted[1:])

    def paint(self):
        chance, net = self.chance, self.paper.nets[-1]
        name = chance.choice([one for one in net.names() if net.stage(one)[0] == "source"])
        picture = net.stage(name)[1]
        dots = []
        for _ in range(chance.choice((0, 1, 1, 2, 5))):
            x, y = chance.choice(inside(picture.window()))
            plane = chance.randrange(len(picture.planes))
            dots.append((x, y, plane, chance.choice((0, picture.depth, chance.randint(0, picture.depth)))))
        kind = chance.random()
        if kind < 0.2:
            # As it was: what is painted first is painted back in the same list.
            dots += [(x, y, plane, picture.at(x, y, plane=plane)) for x, y, plane, number in dots[::-1]]
        elif kind < 0.4 and self.other_dots and self.other_dots[0] in net.names() and net.stage(
                self.other_dots[0])[1:2] == self.other_dots[2]:
            name, dots, _ = self.other_dots
            picture = net.stage(name)[1]
        back = [(x, y, plane, picture.at(x, y, plane=plane)) for x, y, plane, number in dots]
        other, cells = painted(net, name, dots)
        self.assertIsNone(self.engine.paint(name, dots))
        self.other_dots = (name, back, other.stage(name)[1:2])
        if cells:
            self.paper.change(other, "paint", name, cells)

    def put(self):
        chance, net = self.chance, self.paper.nets[-1]
        of = chance.choice(net.names())
        alike = [other for other in net.names() if net.shape(other) == net.shape(of)]
        kinds = ("moved", "filtered", "ranked", "curved", "met", "chosen", "own", "framed", "summed", "levelled",
                 "mixed", "paired", "reduced", "lifted", "unsummed", "source", "again", "again")
        kind = chance.choice(kinds)
        name = chance.choice([*net.names(), *LETTERS])
        if kind == "again":
            name = chance.choice(net.names())
            stage = net.stage(name)
        elif kind == "source":
            planes, depth = net.shape(name) if name in net.names() else (1, 9)
            stage = source(some_picture(chance, planes, depth, most=4), border=some_border(chance, depth))
        elif kind == "own":
            stage = own(of, self.some_def(net.shape(of)[1]))
        else:
            stage = some_stage(chance, kind, net.shape(of), of, (chance.choice(alike), chance.choice(net.names())))
        self.act("put", name, stage)

    def some_def(self, depth):
        """A def that tells of some numbers nothing right, or none such."""
        wrong, kind = self.chance.randint(0, depth), self.chance.randrange(3)

        def tell(numbers):
            if kind == 1 and numbers[0] == wrong:
                raise OwnFault
            return depth + 1 if kind == 2 and numbers[0] == wrong else depth - numbers[0]
        return tell

    def drop(self):
        names = self.paper.nets[-1].names()
        if len(names) > 2:
            self.act("drop", self.chance.choice(names))

    def act(self, word, *things):
        """Puts or drops by the engine and by a net, refused alike."""
        other = copy.deepcopy(self.paper.nets[-1])
        try:
            getattr(other, word)(*things)
        except REFUSALS as error:
            with self.assertRaises(type(error)):
                getattr(self.engine, word)(*things)
            return
        self.assertIsNone(getattr(self.engine, word)(*things))
        if other != self.paper.nets[-1]:
            self.paper.change(other, word, things[0])

    def view(self):
        if len(self.views) < 4:
            self.views.append((self.engine.view(), self.paper.now()))
            self.paper.views.append(self.paper.now())

    def close(self):
        if self.views:
            view, state = self.views.pop(self.chance.randrange(len(self.views)))
            self.assertEqual(view.net(), self.paper.nets[state])
            self.assertIsNone(view.close())
            self.paper.views.remove(state)
            self.paper.throw_out()
            for act in (view.close, view.net, lambda: view.ask("a", (0, 0, 1, 1))):
                self.assertRaises(Closed, act)

    def lives(self, many, acts):
        for _ in range(many):
            self.chance.choice(acts)()
            self.as_told()
            for view, state in self.views:
                self.assertEqual(view.net(), self.paper.nets[state])

    def test_drawn_histories(self):
        for seed in range(120):
            chance = random.Random(1000 + seed)
            side = chance.choice((1, 2, 3, 4, 5, 8))
            room = chance.choice((0, 1, 2, 5, 12, 40, 1000))
            with self.subTest(seed=seed, side=side, room=room):
                self.start(chance, some_net(chance, chance.randint(1, 4)), side, room)
                self.lives(24, [self.ask] * 6 + [self.paint] * 4 + [self.put, self.put, self.drop, self.view, self.close])

    def test_great_sides(self):
        for seed in range(8):
            chance = random.Random(2000 + seed)
            with self.subTest(seed=seed):
                self.start(chance, some_net(chance, 2), chance.choice((7, 11, 16)), chance.choice((0, 3, 64)))
                self.lives(10, [self.ask] * 4 + [self.paint, self.paint, self.put, self.view, self.close])

    def test_paintings_and_views(self):
        """Many states open at once, of few stages, with rooms in which the tiles of all go in and out."""
        for seed in range(60):
            chance = random.Random(3000 + seed)
            with self.subTest(seed=seed):
                net = Net()
                depth = chance.choice((1, 9))
                for name in "ab":
                    net.put(name, source(some_picture(chance, 1, depth), border=some_border(chance, depth)))
                for name, kind in zip("cde", chance.sample(("filtered", "met", "moved", "summed", "ranked"), 3)):
                    of = chance.choice(net.names())
                    net.put(name, some_stage(chance, kind, (1, depth), of, (chance.choice(net.names()), "a")))
                self.start(chance, net, chance.choice((1, 2, 3)), chance.choice((3, 8, 20, 200)))
                self.lives(40, [self.ask] * 5 + [self.paint] * 2 + [self.view, self.close])

    def test_faults(self):
        """Own defs that refuse in the middle, again and again."""
        for seed in range(30):
            chance = random.Random(4000 + seed)
            with self.subTest(seed=seed):
                net = net_of(a=source(some_picture(chance, 1, 3), border=some_border(chance, 3)))
                self.start(chance, net, chance.choice((1, 2, 3)), chance.choice((0, 4, 30, 500)))
                for name, of in zip("cdef", "acae"):
                    self.act("put", name, own(of, self.some_def(3)) if name in "ce" else moved(of, right=1))
                self.act("put", "g", own("f", self.some_def(3)))
                self.lives(16, [self.ask] * 5 + [self.paint, self.view])


if __name__ == "__main__":
    unittest.main()
