"""What several tests need: wrong things, the proof that none was changed, stages upon others, the formulas by words."""

import copy

from pixelstages import stages as makers
from pixelstages.formulas import floor_of, shape_of
from pixelstages.nets import Net
from pixelstages.pictures import Picture

OTHER_KINDS = (None, True, False, "", "a", "1", (), (1,), [], [1], [[1]], {}, {"a": 1}, {1: [2]})
BORDERS = ("near", "wrapped", "mirrored")
ONE_NAME_KINDS = (
    "framed", "moved", "flipped", "turned", "curved", "lifted", "unlifted", "mixed", "filtered", "ranked", "reduced",
    "enlarged", "near_band", "far_band", "summed", "unsummed", "levelled", "own",
)
MORE_NAMES_KINDS = ("paired", "met", "chosen")


def keeps(case, act, *things, **named):
    """Calls act of the things, and tells what it tells; fails where a thing is not as ahead."""
    ahead = copy.deepcopy((things, named))
    try:
        return act(*things, **named)
    finally:
        case.assertEqual((things, named), ahead)
        # An equal thing may still be another one, as True and 1 are.
        case.assertEqual(repr((things, named)), repr(ahead))


def refuses(case, error, act, *things, **named):
    """Fails but where act is refused with this very class, the things as ahead; tells the error."""
    with case.assertRaises(error) as caught:
        keeps(case, act, *things, **named)
    case.assertIs(type(caught.exception), error)
    return caught.exception


class Asked(dict):
    """The numbers of a floor by cells, each told when it is first looked for."""

    def __init__(self, floor):
        super().__init__()
        self.floor = floor

    def __missing__(self, cell):
        self[cell] = self.floor(*cell)
        return self[cell]


def upon(*stages):
    """The shape and the floor of the last stage, each being made of the one ahead of it."""
    shape, floors = None, []
    for stage in stages:
        floors = [floor_of(stage, shape, [Asked(floor) for floor in floors])]
        shape = shape_of(stage, shape)
    return shape, floors[0]


def joined(stage, *below):
    """The shape and the floor of a stage made of several, each of these told as (shape, floor)."""
    return shape_of(stage, below[0][0]), floor_of(stage, below[0][0], [Asked(floor) for _, floor in below])


def spoilt(things, at, thing):
    """The tuple with another thing at a place."""
    return things[:at] + (thing,) + things[at + 1:]


def parts_spoilt(thing, wrong):
    """The thing with each of its parts, in whichever tuple of tuples, exchanged for each wrong thing, one at a time."""
    for at, part in enumerate(thing):
        for one in wrong:
            yield spoilt(thing, at, one)
        if isinstance(part, tuple):
            for other in parts_spoilt(part, wrong):
                yield spoilt(thing, at, other)


def seen(case, window, *stages):
    """The planes that the last stage tells in the window, as those of a picture; the stages as ahead."""
    left, up, wide, high = window
    planes, depth = keeps(case, upon, *stages)[0]
    ahead = copy.deepcopy(stages)
    floor = upon(*stages)[1]
    rows = [[floor(x, y) for x in range(left, left + wide)] for y in range(up, up + high)]
    case.assertEqual(stages, ahead)
    told = tuple([tuple([tuple([numbers[p] for numbers in row]) for row in rows]) for p in range(planes)])
    # Made anew by its own refusals, so that kinds and bounds of what is told are looked at, too.
    case.assertEqual({len(numbers) for row in rows for numbers in row}, {planes})
    return Picture(told, left=left, up=up, depth=depth).planes


def some_planes(chance, planes, wide, high, depth):
    return tuple([tuple([tuple([chance.randint(0, depth) for _ in range(wide)]) for _ in range(high)])
                  for _ in range(planes)])


def rest(a, b):
    return a - a // b * b


def inside(window):
    """The cells of a window, y first."""
    left, up, wide, high = window
    return [(x, y) for y in range(up, up + high) for x in range(left, left + wide)]


def net_of(**stages):
    net = Net()
    for name, stage in stages.items():
        net.put(name, stage)
    return net


def names_in(stage):
    """The names that a stage is made of."""
    many = {"source": 0, "paired": 2, "met": 2, "chosen": 3}.get(stage[0], 1)
    return list(stage[1:1 + many])


class Words:
    """What the document's own words tell of a net: plain and slow, number by number, plane by plane.

    asked has each (name, x, y) that a formula named, as the words have it: what is read.
    """

    def __init__(self, net):
        self.stages = {name: net.stage(name) for name in net.names()}
        self.told = {}
        self.asked = []

    def shape(self, name):
        stage = self.stages[name]
        if stage[0] == "source":
            return (len(stage[1].planes), stage[1].depth)
        planes, depth = self.shape(stage[1])
        if stage[0] == "curved" and stage[3] is not None:
            return (planes, stage[3])
        if stage[0] == "mixed":
            return (len(stage[2]), depth)
        return (1, depth) if stage[0] == "own" else (planes, depth)

    def number(self, name, x, y, p):
        self.asked.append((name, x, y))
        if (name, x, y, p) not in self.told:
            stage = self.stages[name]
            self.told[name, x, y, p] = getattr(self, stage[0])(stage, x, y, p)
        return self.told[name, x, y, p]

    def picture(self, name, window):
        left, up, wide, high = window
        planes, depth = self.shape(name)
        numbers = tuple([tuple([tuple([self.number(name, x, y, p) for x in range(left, left + wide)])
                                for y in range(up, up + high)]) for p in range(planes)])
        return Picture(numbers, left=left, up=up, depth=depth)

    def reads(self, name, cell, which):
        """The cells read of one of those that a stage is made of: those that its formula names, in some plane."""
        stage = self.stages[name]
        below = names_in(stage)
        # The stage over plain noughts, each by a name of its own: what is read is the same of all numbers.
        alone = Words(Net())
        for at, of in enumerate(below):
            planes, depth = self.shape(of)
            alone.stages[at] = makers.source(Picture((((0,),),) * planes, depth=depth))
        # An own def reads its own cell whatever it tells, and might refuse noughts.
        things = (max,) if stage[0] == "own" else stage[1 + len(below):]
        alone.stages["top"] = (stage[0], *range(len(below)), *things)
        for p in range(alone.shape("top")[0]):
            alone.number("top", cell[0], cell[1], p)
        return sorted({(x, y) for of, x, y in alone.asked if of == which}, key=lambda one: one[::-1])

    def comes(self, source, cell, name, x, y, done):
        """Whether a change of a cell of a source comes to a cell of a stage."""
        if (name, x, y) not in done:
            stage = self.stages[name]
            if name == source:
                done[name, x, y] = self.place(stage[1].window(), stage[2], x, y) == cell
            else:
                done[name, x, y] = any([self.comes(source, cell, of, column, row, done)
                                        for which, of in enumerate(names_in(stage))
                                        for column, row in self.reads(name, (x, y), which)])
        return done[name, x, y]

    def place(self, window, border, x, y):
        """Where a cell comes to by 7; None where a whole number stands."""
        left, up, wide, high = window
        if left <= x <= left + wide - 1 and up <= y <= up + high - 1:
            return (x, y)
        if border == "near":
            return (min(max(x, left), left + wide - 1), min(max(y, up), up + high - 1))
        if border == "wrapped":
            return (left + rest(x - left, wide), up + rest(y - up, high))
        if border == "mirrored":
            across, down = rest(x - left, 2 * wide), rest(y - up, 2 * high)
            return (left + (2 * wide - 1 - across if across >= wide else across),
                    up + (2 * high - 1 - down if down >= high else down))
        return None

    def source(self, stage, x, y, p):
        cell = self.place(stage[1].window(), stage[2], x, y)
        return stage[2] if cell is None else stage[1].at(cell[0], cell[1], plane=p)

    def framed(self, stage, x, y, p):
        cell = self.place(stage[2], stage[3], x, y)
        return stage[3] if cell is None else self.number(stage[1], cell[0], cell[1], p)

    def moved(self, stage, x, y, p):
        return self.number(stage[1], x - stage[2], y - stage[3], p)

    def flipped(self, stage, x, y, p):
        return self.number(stage[1], -x, y, p) if stage[2] else self.number(stage[1], x, -y, p)

    def turned(self, stage, x, y, p):
        return self.number(stage[1], y, x, p)

    def curved(self, stage, x, y, p):
        return stage[2][self.number(stage[1], x, y, p)]

    def lifted(self, stage, x, y, p, sign=1):
        planes, depth = self.shape(stage[1])
        numbers = [self.number(stage[1], x, y, q) for q in range(planes)]
        for plane, weights, shift in stage[2][::sign]:
            total = sum([weight * number for weight, number in zip(weights, numbers)])
            numbers[plane] = rest(numbers[plane] + sign * (total // 2 ** shift), depth + 1)
        return numbers[p]

    def unlifted(self, stage, x, y, p):
        return self.lifted(stage, x, y, p, sign=-1)

    def weighed(self, s, by, plus, depth):
        told = (2 * s + by) // (2 * by) + plus
        return 0 if told < 0 else depth if told > depth else told

    def mixed(self, stage, x, y, p):
        planes, depth = self.shape(stage[1])
        s = 0
        for q in range(planes):
            if any([row[q] != 0 for row in stage[2]]):
                s += stage[2][p][q] * self.number(stage[1], x, y, q)
        return self.weighed(s, stage[3], stage[4], depth)

    def filtered(self, stage, x, y, p):
        s, rows, columns = 0, len(stage[2]), len(stage[2][0])
        for j in range(rows):
            for i in range(columns):
                if stage[2][j][i] != 0:
                    s += stage[2][j][i] * self.number(stage[1], x + i - columns // 2, y + j - rows // 2, p)
        return self.weighed(s, stage[3], stage[4], self.shape(stage[1])[1])

    def ranked(self, stage, x, y, p):
        return sorted([self.number(stage[1], x + dx, y + dy, p) for dx, dy in stage[2]])[stage[3]]

    def reduced(self, stage, x, y, p):
        wide, high = stage[2:]
        n = wide * high
        s = sum([self.number(stage[1], *cell, p) for cell in inside((x * wide, y * high, wide, high))])
        return (2 * s + n) // (2 * n)

    def enlarged(self, stage, x, y, p):
        return self.number(stage[1], x // stage[2], y // stage[3], p)

    def far_band(self, stage, x, y, p):
        tones = self.shape(stage[1])[1] + 1
        cells = ((2 * x, y), (2 * x + 1, y)) if stage[2] else ((x, 2 * y), (x, 2 * y + 1))
        a, b = [self.number(stage[1], *cell, p) for cell in cells]
        return rest(a - b, tones)

    def near_band(self, stage, x, y, p):
        tones = self.shape(stage[1])[1] + 1
        cells = ((2 * x, y), (2 * x + 1, y)) if stage[2] else ((x, 2 * y), (x, 2 * y + 1))
        a, b = [self.number(stage[1], *cell, p) for cell in cells]
        return rest(b + rest(a - b, tones) // 2, tones)

    def paired(self, stage, x, y, p):
        tones = self.shape(stage[1])[1] + 1
        cell, at = ((x // 2, y), x) if stage[3] else ((x, y // 2), y)
        n, f = self.number(stage[1], *cell, p), self.number(stage[2], *cell, p)
        b = rest(n - f // 2, tones)
        return rest(b + f, tones) if rest(at, 2) == 0 else b

    def summed(self, stage, x, y, p):
        window = stage[2]
        if (x, y) not in inside(window):
            return 0
        s = sum([self.number(stage[1], i, j, p) for i, j in inside(window) if i <= x and j <= y])
        return rest(s, self.shape(stage[1])[1] + 1)

    def unsummed(self, stage, x, y, p):
        def of(x, y):
            return self.number(stage[1], x, y, p)
        return rest(of(x, y) - of(x - 1, y) - of(x, y - 1) + of(x - 1, y - 1), self.shape(stage[1])[1] + 1)

    def levelled(self, stage, x, y, p):
        own = self.number(stage[1], x, y, p)
        cells = inside(stage[2])
        many = len([cell for cell in cells if self.number(stage[1], *cell, p) <= own])
        return many * self.shape(stage[1])[1] // len(cells)

    def met(self, stage, x, y, p):
        a, b = self.number(stage[1], x, y, p), self.number(stage[2], x, y, p)
        told = {"least": min(a, b), "greatest": max(a, b), "gap": abs(a - b)}
        return told.get(stage[3], min(a + b, self.shape(stage[1])[1]))

    def chosen(self, stage, x, y, p):
        first, second = self.number(stage[1], x, y, p), self.number(stage[2], x, y, p)
        return first if self.number(stage[3], x, y, 0) > 0 else second

    def own(self, stage, x, y, p):
        return stage[2](tuple([self.number(stage[1], x, y, q) for q in range(self.shape(stage[1])[0])]))


def some_picture(chance, planes, depth, most=5):
    return Picture(some_planes(chance, planes, chance.randint(1, most), chance.randint(1, most), depth),
                   left=chance.randint(-4, 4), up=chance.randint(-4, 4), depth=depth)


def some_border(chance, depth):
    return chance.choice((*BORDERS, 0, depth, chance.randint(0, depth)))


def some_window(chance, most=5):
    return (chance.randint(-6, 6), chance.randint(-6, 6), chance.randint(1, most), chance.randint(1, most))


def some_steps(chance, planes):
    steps = []
    for _ in range(chance.randint(1, 3)):
        plane = chance.randrange(planes)
        weights = [chance.choice((-64, -1, 0, 1, 3)) for _ in range(planes)]
        weights[plane] = 0
        steps.append((plane, tuple(weights), chance.choice((0, 1, 8))))
    return tuple(steps)


def some_rows(chance, high, wide):
    return tuple([tuple([chance.choice((-1000, -2, -1, 0, 0, 0, 1, 1, 3, 1000)) for _ in range(wide)])
                  for _ in range(high)])


def some_form(chance):
    places = [(dx, dy) for dx in range(-4, 5) for dy in range(-4, 5)]
    return tuple(chance.sample(places, chance.choice((1, 2, 3, 5, 9))))


def some_table(chance, depth):
    new_depth = chance.choice((None, 1, depth, 300))
    top = depth if new_depth is None else new_depth
    return tuple([chance.randint(0, top) for _ in range(depth + 1)]), new_depth


def some_stage(chance, kind, shape, of, others=("a", "a")):
    """A stage of a kind that fits the shape of what it is made of: of, and where it has more the others."""
    planes, depth = shape
    by, plus = chance.choice((1, 2, 3, 16, 100000)), chance.choice((0, 0, 1, -2, 65535, -65535))
    across = chance.choice((True, False))
    if kind == "curved":
        table, new_depth = some_table(chance, depth)
        return makers.curved(of, table, depth=new_depth)
    if kind == "ranked":
        form = some_form(chance)
        return makers.ranked(of, form, rank=chance.randrange(len(form)))
    return {
        "framed": lambda: makers.framed(of, some_window(chance), border=some_border(chance, depth)),
        "moved": lambda: makers.moved(of, right=chance.choice((-2, 0, 1, 3, 500)), down=chance.choice((-500, -1, 0, 2))),
        "flipped": lambda: makers.flipped(of, across=across),
        "turned": lambda: makers.turned(of),
        "lifted": lambda: makers.lifted(of, some_steps(chance, planes)),
        "unlifted": lambda: makers.unlifted(of, some_steps(chance, planes)),
        "mixed": lambda: makers.mixed(of, some_rows(chance, chance.randint(1, 4), planes), by=by, plus=plus),
        "filtered": lambda: makers.filtered(of, some_rows(chance, chance.randint(1, 5), chance.randint(1, 5)), by=by,
                                            plus=plus),
        "reduced": lambda: makers.reduced(of, wide=chance.randint(1, 3), high=chance.randint(1, 3)),
        "enlarged": lambda: makers.enlarged(of, wide=chance.randint(1, 3), high=chance.randint(1, 8)),
        "near_band": lambda: makers.near_band(of, across=across),
        "far_band": lambda: makers.far_band(of, across=across),
        "summed": lambda: makers.summed(of, some_window(chance)),
        "unsummed": lambda: makers.unsummed(of),
        "levelled": lambda: makers.levelled(of, some_window(chance)),
        "own": lambda: makers.own(of, max if across else lambda numbers: depth - numbers[-1]),
        "paired": lambda: makers.paired(of, others[0], across=across),
        "met": lambda: makers.met(of, others[0], how=chance.choice(("least", "greatest", "sum", "gap"))),
        "chosen": lambda: makers.chosen(of, others[0], others[1]),
    }[kind]()


def some_net(chance, many, kinds=(*ONE_NAME_KINDS, *MORE_NAMES_KINDS)):
    """A net of two sources and so many more stages, each made of such as are there."""
    net = Net()
    depth = chance.choice((1, 2, 9, 255, 65535))
    planes = chance.randint(1, 4)
    for name in ("a", "b"):
        net.put(name, makers.source(some_picture(chance, planes, depth), border=some_border(chance, depth)))
    for name in "cdefghijklmnopqrstuvwxyz"[:many]:
        # Rather of the newest, so that many stand one on another.
        of = chance.choice(net.names()[-3:])
        alike = [other for other in net.names() if net.shape(other) == net.shape(of)]
        others = (chance.choice(alike), chance.choice(net.names()))
        net.put(name, some_stage(chance, chance.choice(kinds), net.shape(of), of, others))
    return net
