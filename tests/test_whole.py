"""Promises 18 and 4: what a net tells of a window of a stage, by the formulas of 6 to 16 one behind the other."""

import itertools
import random
import time
import unittest

from helper import (BORDERS, MORE_NAMES_KINDS, ONE_NAME_KINDS, OTHER_KINDS, Words, inside, keeps, net_of, refuses,
                    some_border, some_net, some_picture, some_planes, some_stage, some_steps, some_window)
from pixelstages.errors import Missing, NoTone, NoWindow
from pixelstages.nets import Net
from pixelstages.pictures import Picture
from pixelstages.stages import (
    chosen, curved, enlarged, far_band, filtered, flipped, framed, levelled, lifted, met, mixed, moved, near_band, own,
    paired, ranked, reduced, source, summed, turned, unlifted, unsummed)

DEPTHS = (1, 2, 9, 255, 65535)
# About pictures that lie between -4 and 8: within them, across their edges, far beyond, at the ends of what may be.
WINDOWS = ((0, 0, 1, 1), (-6, -5, 9, 8), (30, -40, 3, 2), (-1000, -1000, 2, 3), (1000, 1000, 3, 2), (-1000, 1000, 1, 4))
LETTERS = "abcdefghijklmnopqrstuvwx"


def alone(chance, kind, planes, depth):
    """A net of one stage of a kind over sources."""
    net = Net()
    for name in ("a", "b"):
        net.put(name, source(some_picture(chance, planes, depth), border=some_border(chance, depth)))
    net.put("m", source(some_picture(chance, chance.randint(1, 4), 3), border=some_border(chance, 3)))
    net.put("top", some_stage(chance, kind, (planes, depth), "a", ("b", "m")))
    return net


class Formulas(unittest.TestCase):
    def as_told(self, net, name, window):
        told = keeps(self, net.whole, name, window)
        self.assertIs(type(told), Picture)
        wanted = Words(net).picture(name, window)
        self.assertEqual(told, wanted, (net.stage(name), window))
        self.assertEqual((told.window(), len(told.planes), told.depth), (window, *net.shape(name)))

    def test_sources(self):
        chance = random.Random(51)
        for planes, depth, border in itertools.product(range(1, 5), DEPTHS, (*BORDERS, 0, 1, "depth")):
            picture = some_picture(chance, planes, depth)
            net = net_of(a=source(picture, border=depth if border == "depth" else border))
            self.assertEqual(net.whole("a", picture.window()), picture)
            for window in WINDOWS:
                self.as_told(net, "a", window)

    def test_each_kind_alone(self):
        chance = random.Random(52)
        for kind, depth, planes in itertools.product((*ONE_NAME_KINDS, *MORE_NAMES_KINDS), DEPTHS, range(1, 5)):
            if kind == "curved" and depth == 65535 and planes > 1:
                continue
            net = alone(chance, kind, planes, depth)
            for window in WINDOWS:
                self.as_told(net, "top", window)

    def test_several_one_on_another(self):
        chance = random.Random(53)
        for _ in range(150):
            net = some_net(chance, chance.randint(2, 8))
            for name in chance.sample(net.names(), 3):
                self.as_told(net, name, some_window(chance, most=4))

    def test_at_the_bounds_of_the_things(self):
        net = net_of(a=source(Picture((((1, 2), (3, 4)),), left=1000, up=-1000, depth=65535), border="mirrored"),
                     b=moved("a", right=-500, down=500), c=ranked("b", ((4, 4), (-4, -4), (4, -4)), rank=2),
                     d=filtered("c", ((1, -1, 1000, 3, 2),) * 5, by=100000, plus=7),
                     e=curved("d", tuple(range(65535, -1, -1)), depth=65535), f=enlarged("e", wide=8, high=8),
                     g=reduced("f", wide=8, high=8), h=framed("g", (1000, 1000, 48, 48), border=65535))
        for name, window in itertools.product("abcde", ((498, -502, 5, 5), (1000, -1000, 3, 3), (-1000, 1000, 3, 2))):
            self.as_told(net, name, window)
        for name, window in itertools.product("fgh", ((498, -502, 2, 2), (1000, 1000, 2, 1))):
            self.as_told(net, name, window)

    def test_the_greatest_window(self):
        net = net_of(a=source(Picture(some_planes(random.Random(54), 4, 48, 48, 65535), depth=65535)),
                     b=flipped("a"), c=met("a", "b", how="gap"))
        for name in "abc":
            self.as_told(net, name, (-24, -24, 48, 48))

    def test_numbers_are_whole_ones(self):
        net = alone(random.Random(55), "levelled", 2, 9)
        for plane in net.whole("top", (0, 0, 3, 3)).planes:
            self.assertEqual({type(number) for row in plane for number in row}, {int})

    def test_asking_changes_nothing(self):
        chance = random.Random(56)
        net = some_net(chance, 6)
        pictures = {name: net.whole(name, (-2, -2, 4, 4)) for name in net.names()}
        for _ in range(2):
            self.assertEqual({name: net.whole(name, (-2, -2, 4, 4)) for name in net.names()}, pictures)


class AsItWas(unittest.TestCase):
    """Promise 4: what is done and undone."""

    def same(self, net, one, other, window):
        told, wanted = net.whole(one, window), net.whole(other, window)
        self.assertEqual((told.planes, told.depth), (wanted.planes, wanted.depth))

    def test_lifted_and_unlifted(self):
        chance = random.Random(57)
        for planes, depth in itertools.product(range(1, 5), DEPTHS):
            steps = some_steps(chance, planes)
            net = net_of(a=source(some_picture(chance, planes, depth), border=some_border(chance, depth)),
                         b=lifted("a", steps), c=unlifted("b", steps), d=unlifted("a", steps), e=lifted("d", steps))
            for window in WINDOWS:
                self.same(net, "c", "a", window)
                self.same(net, "e", "a", window)

    def test_parted_in_bands_and_paired(self):
        chance = random.Random(58)
        for across, depth in itertools.product((True, False), DEPTHS):
            net = net_of(a=source(some_picture(chance, 3, depth), border=some_border(chance, depth)),
                         n=near_band("a", across=across), f=far_band("a", across=across),
                         nn=near_band("n", across=not across), nf=far_band("n", across=not across),
                         q=paired("nn", "nf", across=not across), p=paired("q", "f", across=across))
            for window in WINDOWS:
                self.same(net, "p", "a", window)
                self.same(net, "q", "n", window)

    def test_summed_and_unsummed_within_the_window(self):
        chance = random.Random(59)
        for depth, window in itertools.product(DEPTHS, (*WINDOWS, (-20, -20, 48, 48))):
            net = net_of(a=source(some_picture(chance, 2, depth), border=some_border(chance, depth)),
                         b=summed("a", window), c=unsummed("b"))
            self.same(net, "c", "a", window)


class Refused(unittest.TestCase):
    def setUp(self):
        def never(numbers):
            raise KeyError("never asked")
        self.net = net_of(a=source(Picture((((1, 2), (3, 4)),), depth=9), border=0), wrong=own("a", lambda numbers: 10),
                          raises=own("a", never))

    def test_missing(self):
        for name in ("b", "aa", "A", *[thing for thing in OTHER_KINDS if thing != "a"], 5, ["a"], ("a",), {"a": "a"}):
            self.assertEqual(refuses(self, Missing, self.net.whole, name, (0, 0, 1, 1)).name, name)

    def test_no_window(self):
        for window in ((0, 0, 0, 1), (0, 0, 1, 0), (0, 0, 49, 1), (0, 0, 1, 49), (-1001, 0, 1, 1), (1001, 0, 1, 1),
                       (0, -1001, 1, 1), (0, 1001, 1, 1), (0, 0, 1), (0, 0, 1, 1, 1), [0, 0, 1, 1], (0, 0, True, 1),
                       (False, 0, 1, 1), "abcd", 5, *OTHER_KINDS):
            refuses(self, NoWindow, self.net.whole, "a", window)

    def test_in_the_order_told(self):
        refuses(self, Missing, self.net.whole, "b", (0, 0, 0, 1))
        for name in ("wrong", "raises"):
            refuses(self, NoWindow, self.net.whole, name, (0, 0, 0, 1))

    def test_own_defs(self):
        error = refuses(self, NoTone, self.net.whole, "wrong", (5, -6, 3, 4))
        self.assertIn(error.cell, inside((5, -6, 3, 4)))
        refuses(self, KeyError, self.net.whole, "raises", (0, 0, 1, 1))
        for thing in (-1, 10, True, None, "1", (1,), [1]):
            net = net_of(a=self.net.stage("a"), b=own("a", lambda numbers: thing if numbers == (4,) else 0),
                         c=moved("b", right=7))
            self.assertEqual(refuses(self, NoTone, net.whole, "b", (-2, -2, 5, 5)).cell, (1, 1))
            self.assertEqual(refuses(self, NoTone, net.whole, "c", (-2, -2, 30, 5)).cell, (1, 1))
            self.assertEqual(net.whole("c", (0, 0, 8, 9)), Picture((((0,) * 8,) * 9,), depth=9))

    def test_behind_a_refusal_all_is_as_ahead(self):
        names, stages = self.net.names(), [self.net.stage(name) for name in self.net.names()]
        for name, window in (("b", (0, 0, 1, 1)), ("a", ()), ("wrong", (0, 0, 1, 1)), ("raises", (0, 0, 1, 1))):
            with self.assertRaises((Missing, NoWindow, NoTone, KeyError)):
                self.net.whole(name, window)
            self.assertEqual((self.net.names(), [self.net.stage(one) for one in names]), (names, stages))
            self.assertEqual(self.net.whole("a", (0, 0, 2, 2)), self.net.stage("a")[1])

    def test_only_cells_that_are_read_are_asked(self):
        """An own def that refuses all but some cells is asked for none but those that 19 tells."""
        chance = random.Random(60)
        for _ in range(200):
            kind = chance.choice((*ONE_NAME_KINDS, *MORE_NAMES_KINDS))
            asked = []

            def tell(numbers):
                asked.append(numbers)
                return 0
            net = Net()
            # Each cell has numbers of its own, so that the def knows where it is asked.
            numbered = tuple([tuple([48 * y + x for x in range(48)]) for y in range(48)])
            net.put("a", source(Picture((numbered,), left=-24, up=-24, depth=2303), border=0))
            net.put("b", own("a", tell))
            net.put("c", source(Picture((((1,),),), depth=2303)))
            net.put("top", some_stage(chance, kind, (1, 2303), "b", ("c", "c")))
            window = some_window(chance, most=3)
            asked.clear()
            net.whole("top", window)
            words = Words(net)
            wanted = {cell for top in inside(window) for cell in words.reads("top", top, 0)}
            told = {net.whole("a", (x, y, 1, 1)).at(x, y) for x, y in wanted if -1000 <= x <= 1000 and -1000 <= y <= 1000}
            self.assertEqual({numbers[0] for numbers in asked}, told, net.stage("top"))

    def test_a_weight_of_0_is_not_asked_but_each_of_three_is(self):
        for stage in (mixed("wrong", ((0,), (0,)), plus=3), filtered("wrong", ((0, 0), (0, 0)), plus=3),
                      framed("wrong", (100, 100, 1, 1), border=3)):
            self.net.put("top", stage)
            self.assertEqual({number for row in self.net.whole("top", (0, 0, 2, 2)).planes[0] for number in row}, {3})
        self.net.put("top", summed("wrong", (100, 100, 2, 2)))
        self.assertEqual(self.net.whole("top", (0, 0, 2, 2)).planes, (((0, 0), (0, 0)),))
        for stage in (chosen("wrong", "a", "a"), chosen("a", "wrong", "a"), chosen("a", "a", "wrong")):
            self.net.put("top", stage)
            for window in ((0, 0, 1, 1), (5, 5, 1, 1)):
                refuses(self, NoTone, self.net.whole, "top", window)


class ManyWays(unittest.TestCase):
    """Nets of 24 stages, each read along very many ways, told in few steps."""

    def told_soon(self, net, window):
        self.assertEqual(len(net), 24)
        start = time.perf_counter()
        told = net.whole(net.names()[-1], window)
        # A second or so by itself; some more where a machine has other work.
        self.assertLess(time.perf_counter() - start, 10)
        return told

    def stacked(self, first, maker):
        net = net_of(a=first)
        for ahead, name in zip(LETTERS, LETTERS[1:]):
            net.put(name, maker(ahead))
        return net

    def test_two_met_of_the_same(self):
        net = self.stacked(source(Picture((((1, 0),),), depth=65535)), lambda of: met(of, of, how="sum"))
        self.assertEqual(self.told_soon(net, (0, 0, 2, 1)).planes, (((65535, 0),),))

    def test_chosen_of_the_same(self):
        picture = Picture(some_planes(random.Random(61), 2, 8, 8, 9), depth=9)
        net = self.stacked(source(picture), lambda of: chosen(of, of, of))
        self.assertEqual(self.told_soon(net, (0, 0, 8, 8)), picture)

    def test_filters_by_all_their_weights(self):
        net = self.stacked(source(Picture((((90,),),))), lambda of: filtered(of, ((1, 1, 1),) * 3, by=9))
        self.assertEqual(self.told_soon(net, (-16, -16, 32, 32)).planes, (((90,) * 32,) * 32,))

    def test_ranks_about_a_dot(self):
        form = tuple([(dx, dy) for dx in (-1, 0, 1) for dy in (-1, 0, 1)])
        net = self.stacked(source(Picture((((7,),),)), border=0), lambda of: ranked(of, form, rank=8))
        rows = self.told_soon(net, (-24, -24, 48, 48)).planes[0]
        self.assertEqual({number for row in rows[1:] for number in row[1:]}, {7})
        self.assertEqual({*rows[0], *[row[0] for row in rows]}, {0})

    def test_sums_and_levels_and_differences(self):
        net = net_of(a=source(Picture(some_planes(random.Random(62), 1, 48, 48, 255))))
        window = (0, 0, 48, 48)
        for ahead, name, at in zip(LETTERS, LETTERS[1:], itertools.cycle((0, 1, 2))):
            net.put(name, (summed(ahead, window), unsummed(ahead), levelled(ahead, window))[at])
        self.told_soon(net, (0, 0, 48, 48))

    def test_moved_and_met(self):
        """As many ways as a triangle of numbers has: of the sums, by the rest of a mixing, just their last bits."""
        net = net_of(a=source(Picture((((1,),),), depth=1), border=0))
        names = [f"{kind}{letter}" for letter in "bcdefghijkl" for kind in ("m", "s")]
        below = "a"
        for move, meet in zip(names[::2], names[1::2]):
            net.put(move, moved(below, right=1))
            net.put(meet, met(below, move, how="gap"))
            below = meet
        net.put("z", turned(below))
        row = (1,)
        for _ in range(11):
            row = tuple([left ^ right for left, right in zip((*row, 0), (0, *row))])
        self.assertEqual(self.told_soon(net, (0, -1, 1, 15)).planes[0], tuple([(n,) for n in (0, *row, 0, 0)]))


if __name__ == "__main__":
    unittest.main()
