"""Promises 19 and 20: which cells are read, and how far a change of a source comes."""

import itertools
import random
import time
import unittest

from helper import (MORE_NAMES_KINDS, ONE_NAME_KINDS, OTHER_KINDS, Words, inside, keeps, names_in, net_of, refuses,
                    some_border, some_net, some_picture, some_stage, some_window)
from pixelstages.errors import Missing, NoPlace, NoSource, NoWindow
from pixelstages.nets import Net
from pixelstages.pictures import Picture
from pixelstages.readers import cells_read
from pixelstages.reads import reached, reads
from pixelstages.stages import (
    MIRRORED, NEAR, WRAPPED, chosen, curved, enlarged, far_band, filtered, flipped, framed, levelled, lifted, met, mixed,
    moved, near_band, own, paired, ranked, reduced, source, summed, turned, unlifted, unsummed)

PICTURE = Picture((((0, 1), (2, 3)), ((3, 2), (1, 0))), depth=3)
# Pairs of numbers that are no cells.
NO_CELLS = ((1000001, 0), (-1000001, 0), (0, 1000001), (0, -1000001), (0,), (0, 0, 0), [0, 0], (True, 0), (0, False),
            ("0", 0), (None, 0), 5, "ab", *OTHER_KINDS)


def over(stage):
    """A net of the sources a, b, c and the stage, by the name top."""
    return net_of(a=source(PICTURE), b=source(PICTURE), c=source(PICTURE), top=stage)


class Reads(unittest.TestCase):
    def told(self, stage, cell, wanted, which=0):
        net = over(stage)
        self.assertEqual(keeps(self, lambda *things: reads(net, *things, which=which), "top", cell), wanted)
        if which == 0:
            self.assertEqual(reads(net, "top", cell), wanted)

    def test_own_cells(self):
        steps = ((0, (0, 0), 0),)
        for stage in (curved("a", (0, 0, 0, 0)), lifted("a", steps), unlifted("a", steps), own("a", max),
                      mixed("a", ((0, 1),)), mixed("a", ((0, 0), (0, -1)))):
            for cell in ((0, 0), (-7, 9), (1000000, -1000000)):
                self.told(stage, cell, [cell])

    def test_moves(self):
        self.told(moved("a", right=500, down=-500), (1000000, -1000000), [(999500, -999500)])
        self.told(moved("a", right=-500, down=500), (1000000, -1000000), [(1000500, -1000500)])
        self.told(flipped("a"), (3, 5), [(-3, 5)])
        self.told(flipped("a", across=False), (3, 5), [(3, -5)])
        self.told(turned("a"), (3, 5), [(5, 3)])

    def test_weights_of_0_are_not_read(self):
        self.told(mixed("a", ((0, 0), (0, 0))), (3, 5), [])
        self.told(filtered("a", ((0, 0), (0, 0))), (3, 5), [])
        self.told(filtered("a", ((1, 0, 2), (0, 0, 0), (-1, 3, 0))), (10, 20), [(9, 19), (11, 19), (9, 21), (10, 21)])
        self.told(filtered("a", ((0, 5),)), (10, 20), [(10, 20)])
        self.told(filtered("a", ((5, 0),)), (10, 20), [(9, 20)])

    def test_filters_and_forms_rise_by_y_first(self):
        self.told(filtered("a", ((1,) * 5,) * 5), (0, 0), inside((-2, -2, 5, 5)))
        self.told(filtered("a", ((1,) * 4,) * 2), (0, 0), inside((-2, -1, 4, 2)))
        self.told(ranked("a", ((4, -4), (0, 0), (-4, 4), (-1, 0), (-4, -4))), (10, 10),
                  [(6, 6), (14, 6), (9, 10), (10, 10), (6, 14)])

    def test_blocks(self):
        self.told(reduced("a", wide=3, high=2), (-1, 2), inside((-3, 4, 3, 2)))
        self.told(reduced("a", wide=1, high=1), (-1, 2), [(-1, 2)])
        self.told(reduced("a", wide=8, high=8), (1000000, -1000000), inside((8000000, -8000000, 8, 8)))
        self.told(enlarged("a", wide=3, high=2), (-1, 5), [(-1, 2)])
        self.told(enlarged("a", wide=8, high=8), (-8, -9), [(-1, -2)])

    def test_bands(self):
        for maker in (near_band, far_band):
            self.told(maker("a"), (-3, 4), [(-6, 4), (-5, 4)])
            self.told(maker("a", across=False), (-3, 4), [(-3, 8), (-3, 9)])
        for which in (0, 1):
            self.told(paired("a", "b"), (-3, 5), [(-2, 5)], which=which)
            self.told(paired("a", "b", across=False), (-3, 5), [(-3, 2)], which=which)
            self.told(paired("a", "a"), (4, 5), [(2, 5)], which=which)

    def test_frames(self):
        window = (0, 0, 3, 2)
        for border in (NEAR, WRAPPED, MIRRORED, 3):
            for cell in inside(window):
                self.told(framed("a", window, border=border), cell, [cell])
        for border, wanted in ((NEAR, [(0, 1)]), (WRAPPED, [(1, 0)]), (MIRRORED, [(1, 1)]), (3, []), (0, [])):
            self.told(framed("a", window, border=border), (-2, 2), wanted)

    def test_sums_and_levels(self):
        window = (-2, 1, 4, 3)
        self.told(summed("a", window), (-2, 1), [(-2, 1)])
        self.told(summed("a", window), (0, 2), inside((-2, 1, 3, 2)))
        self.told(summed("a", window), (1, 3), inside(window))
        for beyond in ((-3, 1), (2, 3), (0, 0), (0, 4), (1000000, 1000000)):
            self.told(summed("a", window), beyond, [])
        self.told(unsummed("a"), (0, 0), [(-1, -1), (0, -1), (-1, 0), (0, 0)])
        self.told(levelled("a", window), (0, 2), inside(window))
        self.told(levelled("a", window), (9, 2), [*inside((-2, 1, 4, 2)), (9, 2), *inside((-2, 3, 4, 1))])
        self.told(levelled("a", window), (0, -5), [(0, -5), *inside(window)])

    def test_two_and_three(self):
        for which in (0, 1):
            self.told(met("a", "b"), (7, -8), [(7, -8)], which=which)
            self.told(met("a", "a"), (7, -8), [(7, -8)], which=which)
        for which in (0, 1, 2):
            self.told(chosen("a", "b", "c"), (7, -8), [(7, -8)], which=which)

    def test_by_the_words_of_the_formulas(self):
        chance = random.Random(81)
        for kind in (*ONE_NAME_KINDS, *MORE_NAMES_KINDS):
            for _ in range(25):
                planes, depth = chance.randint(1, 4), chance.choice((1, 3, 255))
                net = Net()
                for name in ("a", "b", "c"):
                    net.put(name, source(some_picture(chance, planes, depth), border=some_border(chance, depth)))
                net.put("top", some_stage(chance, kind, (planes, depth), "a", ("b", "c")))
                words = Words(net)
                for which in range(len(names_in(net.stage("top")))):
                    cell = (chance.randint(-9, 9), chance.randint(-9, 9))
                    self.assertEqual(reads(net, "top", cell, which=which), words.reads("top", cell, which))

    def test_of_many_cells_together(self):
        """What is read by many cells is what each of them reads."""
        chance = random.Random(82)
        for kind in (*ONE_NAME_KINDS, *MORE_NAMES_KINDS):
            for _ in range(10):
                stage = some_stage(chance, kind, (2, 9), "a")
                cells = chance.sample(inside((-8, -8, 16, 16)), chance.choice((0, 1, 3, 12, 60)))
                wanted = {cell for one in cells for cell in cells_read(stage, [one])}
                self.assertEqual(sorted(keeps(self, cells_read, stage, cells)), sorted(wanted), (stage, cells))

    def test_lists_are_the_askers_own(self):
        net = over(levelled("a", (0, 0, 2, 2)))
        told = reads(net, "top", (5, 5))
        told.clear()
        self.assertEqual(len(reads(net, "top", (5, 5))), 5)


class ReadsRefused(unittest.TestCase):
    def setUp(self):
        self.net = over(met("a", "b"))

    def test_missing(self):
        for name in ("x", "A", *[thing for thing in OTHER_KINDS if thing != "a"], 0, ["a"]):
            error = refuses(self, Missing, lambda name: reads(self.net, name, (0, 0)), name)
            self.assertEqual(repr(error.name), repr(name))

    def test_no_cell(self):
        for cell in NO_CELLS:
            refuses(self, NoWindow, lambda cell: reads(self.net, "top", cell), cell)
            refuses(self, NoWindow, lambda cell: reads(self.net, "a", cell), cell)

    def test_no_place(self):
        for which in (-1, 2, 10 ** 9, *OTHER_KINDS):
            refuses(self, NoPlace, lambda which: reads(self.net, "top", (0, 0), which=which), which)
        for which in (0, 1, -1, None):
            refuses(self, NoPlace, lambda which: reads(self.net, "a", (0, 0), which=which), which)
        self.net.put("turn", turned("a"))
        refuses(self, NoPlace, lambda which: reads(self.net, "turn", (0, 0), which=which), 1)
        self.net.put("three", chosen("a", "b", "c"))
        refuses(self, NoPlace, lambda which: reads(self.net, "three", (0, 0), which=which), 3)

    def test_in_the_order_told(self):
        refuses(self, Missing, lambda: reads(self.net, "x", (0,)))
        refuses(self, Missing, lambda: reads(self.net, "x", (0, 0), which=9))
        refuses(self, NoWindow, lambda: reads(self.net, "top", (0,), which=9))
        refuses(self, NoWindow, lambda: reads(self.net, "a", (0,)))

    def test_which_has_no_place(self):
        with self.assertRaises(TypeError):
            reads(self.net, "top", (0, 0), 1)


class Reached(unittest.TestCase):
    def told(self, net, cell, name, window, wanted, of="a"):
        self.assertEqual(keeps(self, lambda *things: reached(net, *things), of, cell, name, window), wanted)

    def test_of_the_source_itself(self):
        for border, wanted in ((NEAR, [(-1, -1), (0, -1), (-1, 0), (0, 0)]), (0, [(0, 0)]), (3, [(0, 0)]),
                               (WRAPPED, [(0, 0), (2, 0), (0, 2), (2, 2)]),
                               (MIRRORED, [(-1, -1), (0, -1), (-1, 0), (0, 0)])):
            self.told(net_of(a=source(PICTURE, border=border)), (0, 0), "a", (-1, -1, 4, 4), wanted)
        self.told(net_of(a=source(PICTURE, border=WRAPPED)), (1, 0), "a", (1000, -1000, 2, 2), [(1001, -1000)])

    def test_through_others(self):
        net = net_of(a=source(PICTURE, border=0), b=moved("a", right=2), c=filtered("b", ((1, 0, 1),)), d=turned("c"),
                     e=summed("a", (0, 0, 3, 3)), f=levelled("a", (1, 1, 1, 1)), g=reduced("a"), h=enlarged("a"))
        self.told(net, (0, 1), "b", (0, 0, 4, 4), [(2, 1)])
        self.told(net, (0, 1), "c", (0, 0, 5, 4), [(1, 1), (3, 1)])
        self.told(net, (0, 1), "d", (0, 0, 4, 5), [(1, 1), (1, 3)])
        self.told(net, (1, 1), "e", (-1, -1, 6, 6), [(1, 1), (2, 1), (1, 2), (2, 2)])
        self.told(net, (1, 1), "f", (0, 0, 2, 2), [(0, 0), (1, 0), (0, 1), (1, 1)])
        self.told(net, (1, 0), "f", (0, 0, 2, 2), [(1, 0)])
        self.told(net, (1, 1), "g", (-1, -1, 3, 3), [(0, 0)])
        self.told(net, (1, 0), "h", (-1, -1, 9, 9), [(2, 0), (3, 0), (2, 1), (3, 1)])

    def test_whatever_the_numbers_and_planes(self):
        """A change comes where it is read, though no number would be another one."""
        net = net_of(a=source(PICTURE, border=0), b=curved("a", (0, 0, 0, 0)), c=mixed("a", ((0, 0), (1, 0))),
                     d=mixed("a", ((0, 0), (0, 0))), e=met("a", "a", how="gap"))
        for name, wanted in (("b", [(1, 1)]), ("c", [(1, 1)]), ("d", []), ("e", [(1, 1)])):
            self.told(net, (1, 1), name, (0, 0, 2, 2), wanted)

    def test_where_the_source_is_not_read(self):
        net = net_of(a=source(PICTURE), b=source(PICTURE), c=turned("b"), d=met("c", "b"), e=chosen("b", "b", "a"))
        for name in "bcd":
            self.told(net, (0, 0), name, (-5, -5, 9, 9), [])
        self.told(net, (0, 0), "e", (0, 0, 2, 1), [(0, 0)])
        self.told(net, (1, 0), "e", (0, 0, 2, 1), [(1, 0)], of="b")
        net.put("c", framed("a", (0, 0, 1, 1), border=2))
        self.told(net, (0, 0), "c", (1, 1, 5, 5), [])

    def test_against_a_plain_search(self):
        chance = random.Random(83)
        for _ in range(120):
            net = some_net(chance, chance.randint(1, 5))
            words = Words(net)
            of, name = chance.choice("ab"), chance.choice(net.names())
            cell = chance.choice(inside(net.stage(of)[1].window()))
            window = some_window(chance, most=4)
            done = {}
            wanted = [(x, y) for x, y in inside(window) if words.comes(of, cell, name, x, y, done)]
            self.told(net, cell, name, window, wanted, of=of)

    def test_where_a_change_is_seen(self):
        """Cells whose numbers a change of a source's cell changes are among those that are told."""
        chance = random.Random(84)
        for _ in range(60):
            net = some_net(chance, 5)
            name, window = net.names()[-1], some_window(chance, most=4)
            picture, border = net.stage("a")[1:]
            x, y = chance.choice(inside(picture.window()))
            told = reached(net, "a", (x, y), name, window)
            ahead = net.whole(name, window)
            planes = [[list(row) for row in plane] for plane in picture.planes]
            number = planes[0][y - picture.up][x - picture.left]
            planes[0][y - picture.up][x - picture.left] = number - 1 if number else 1
            net.put("a", source(Picture(tuple([tuple([tuple(row) for row in plane]) for plane in planes]),
                                        left=picture.left, up=picture.up, depth=picture.depth), border=border))
            behind = net.whole(name, window)
            for cell, p in itertools.product(inside(window), range(len(ahead.planes))):
                if ahead.at(*cell, plane=p) != behind.at(*cell, plane=p):
                    self.assertIn(cell, told)

    def test_no_def_is_asked(self):
        def never(numbers):
            raise RuntimeError("asked")
        net = net_of(a=source(PICTURE, border=0), b=own("a", never), c=turned("b"))
        self.told(net, (1, 0), "c", (0, 0, 2, 2), [(0, 1)])
        self.assertEqual(reads(net, "b", (1, 0)), [(1, 0)])

    def test_along_very_many_ways(self):
        net = net_of(a=source(PICTURE, border=0))
        letters = "abcdefghijklmnopqrstuvwx"
        for ahead, name in zip(letters, letters[1:]):
            net.put(name, filtered(ahead, ((1, 1, 1),) * 3) if name < "l" else met(ahead, ahead))
        start = time.perf_counter()
        self.told(net, (0, 0), "x", (-20, -20, 40, 40), inside((-10, -10, 21, 21)))
        self.assertLess(time.perf_counter() - start, 10)


class ReachedRefused(unittest.TestCase):
    def setUp(self):
        self.net = net_of(a=source(Picture((((0, 1), (2, 3)),), left=-1, up=5)), b=turned("a"))

    def refused(self, error, *things):
        return refuses(self, error, lambda *all_things: reached(self.net, *all_things), *things)

    def test_missing(self):
        for name in ("x", "A", *[thing for thing in OTHER_KINDS if thing != "a"], 0, ["a"], {"a": 1}):
            self.assertEqual(repr(self.refused(Missing, name, (0, 5), "b", (0, 0, 1, 1)).name), repr(name))
            self.assertEqual(repr(self.refused(Missing, "a", (0, 5), name, (0, 0, 1, 1)).name), repr(name))

    def test_no_source(self):
        self.refused(NoSource, "b", (0, 5), "b", (0, 0, 1, 1))
        self.refused(NoSource, "b", (0, 5), "a", (0, 0, 1, 1))

    def test_no_cell_of_the_picture(self):
        for cell in ((-2, 5), (1, 5), (0, 4), (0, 7), (1000000, 1000000), *NO_CELLS):
            self.refused(NoWindow, "a", cell, "b", (0, 0, 1, 1))
        for cell in ((-1, 5), (0, 5), (-1, 6), (0, 6)):
            self.assertEqual(reached(self.net, "a", cell, "a", (*cell, 1, 1)), [cell])

    def test_no_window(self):
        for window in ((0, 0, 0, 1), (0, 0, 1, 49), (-1001, 0, 1, 1), (0, 1001, 1, 1), [0, 0, 1, 1], (0, 0, True, 1), 5,
                       *OTHER_KINDS):
            self.refused(NoWindow, "a", (0, 5), "b", window)

    def test_in_the_order_told(self):
        self.assertEqual(self.refused(Missing, "x", (0, 0), "y", ()).name, "x")
        self.assertEqual(self.refused(Missing, "b", (0, 0), "y", ()).name, "y")
        self.assertEqual(self.refused(Missing, "a", (0, 0), "y", ()).name, "y")
        self.refused(NoSource, "b", (0,), "b", ())
        self.refused(NoSource, "b", (0, 5), "b", ())
        self.refused(NoSource, "b", (0,), "b", (0, 0, 1, 1))
        self.refused(NoWindow, "a", (0,), "b", ())


if __name__ == "__main__":
    unittest.main()
