"""Promises 13 and 14: means of blocks, and bands that are paired again."""

import itertools
import random
import unittest

from helper import joined, rest, seen, some_planes, upon
from pixelstages.pictures import Picture
from pixelstages.stages import MIRRORED, NEAR, WRAPPED, enlarged, far_band, near_band, paired, reduced, source

DEPTHS = (1, 2, 9, 255, 65535)
FAR_CELLS = ((-1000000, 999999), (1000000, -1000000), (-1048, 1048))


def row(*numbers, depth=255, border=0):
    return source(Picture(((numbers,),), depth=depth), border=border)


def column(*numbers, depth=255, border=0):
    return source(Picture((tuple([(number,) for number in numbers]),), depth=depth), border=border)


def some_source(chance, planes, depth):
    picture = Picture(some_planes(chance, planes, chance.randint(1, 7), chance.randint(1, 7), depth),
                      left=chance.randint(-5, 5), up=chance.randint(-5, 5), depth=depth)
    return source(picture, border=chance.choice((NEAR, WRAPPED, MIRRORED, 0, depth)))


class Reduced(unittest.TestCase):
    def test_one_row_and_one_column(self):
        numbers = (1, 2, 4, 4, 5, 200)
        told = (0, 2, 4, 103, 0)
        self.assertEqual(seen(self, (-1, 0, 5, 1), row(*numbers), reduced("a", high=1))[0][0], told)
        self.assertEqual(seen(self, (0, -1, 1, 5), column(*numbers), reduced("a", wide=1))[0],
                         tuple([(number,) for number in told]))

    def test_just_a_half_goes_up(self):
        for numbers, told in (((0, 1), 1), ((1, 1), 1), ((1, 2), 2), ((2, 3), 3), ((0, 2), 1)):
            self.assertEqual(upon(row(*numbers), reduced("a", high=1))[1](0, 0), (told,))
        for numbers, told in (((0, 0, 1), 0), ((0, 1, 1), 1), ((1, 1, 2), 1), ((1, 2, 2), 2)):
            self.assertEqual(upon(row(*numbers), reduced("a", wide=3, high=1))[1](0, 0), (told,))

    def test_two_by_two_where_left_out(self):
        picture = source(Picture((((1, 2, 50), (3, 6, 50)),)), border=0)
        self.assertEqual(upon(picture, reduced("a"))[1](0, 0), (3,))
        self.assertEqual(upon(picture, reduced("a", wide=3))[1](0, 0), (19,))

    def test_blocks_below_0(self):
        """The block of cell -1 has the cells from -wide to -1."""
        picture = source(Picture((((10, 20, 30, 40, 50, 60),),), left=-3), border=0)
        self.assertEqual(seen(self, (-2, 0, 4, 1), picture, reduced("a", wide=3, high=1))[0][0], (0, 20, 50, 0))
        self.assertEqual(seen(self, (-3, 0, 6, 1), picture, reduced("a", high=1))[0][0], (0, 5, 25, 45, 30, 0))

    def test_blocks_of_1_are_the_picture(self):
        chance = random.Random(21)
        below = some_source(chance, 3, 255)
        window = (-12, -9, 20, 18)
        self.assertEqual(seen(self, window, below, reduced("a", wide=1, high=1)), seen(self, window, below))

    def test_blocks_of_8_at_the_depth(self):
        for depth in DEPTHS:
            full = source(Picture((((depth,),),), depth=depth))
            floor = upon(full, reduced("a", wide=8, high=8))[1]
            self.assertEqual([floor(x, y) for x, y in FAR_CELLS], [(depth,)] * 3)

    def test_by_the_words_of_the_promise(self):
        chance = random.Random(22)
        sizes = [(1, 1), (8, 8), (1, 8), (8, 1), (2, 2), (3, 5), (7, 2)]
        for depth, (wide, high) in itertools.product(DEPTHS, sizes):
            planes = chance.randint(1, 4)
            below = some_source(chance, planes, depth)
            of = upon(below)[1]
            shape, floor = upon(below, reduced("a", wide=wide, high=high))
            self.assertEqual(shape, (planes, depth))
            n = wide * high
            for x, y in [*itertools.product(range(-3, 3), repeat=2), *FAR_CELLS]:
                wanted = []
                for p in range(planes):
                    s = 0
                    for down, across in itertools.product(range(high), range(wide)):
                        s += of(x * wide + across, y * high + down)[p]
                    wanted.append((2 * s + n) // (2 * n))
                self.assertEqual(floor(x, y), tuple(wanted))


class Enlarged(unittest.TestCase):
    def test_one_row_and_one_column(self):
        told = (0, 0, 7, 7, 7, 9, 9, 9, 0)
        self.assertEqual(seen(self, (-2, 0, 9, 1), row(7, 9), enlarged("a", wide=3, high=1))[0][0], told)
        self.assertEqual(seen(self, (0, -2, 1, 9), column(7, 9), enlarged("a", wide=1, high=3))[0],
                         tuple([(number,) for number in told]))

    def test_two_by_two_where_left_out(self):
        self.assertEqual(seen(self, (-1, -1, 6, 4), row(7, 9), enlarged("a"))[0],
                         ((0,) * 6, (0, 7, 7, 9, 9, 0), (0, 7, 7, 9, 9, 0), (0,) * 6))
        self.assertEqual(seen(self, (0, 0, 5, 2), row(7, 9), enlarged("a", high=1))[0], ((7, 7, 9, 9, 0), (0,) * 5))

    def test_cells_below_0(self):
        picture = source(Picture((((1, 2, 3, 4),),), left=-2), border=0)
        self.assertEqual(seen(self, (-5, 0, 10, 1), picture, enlarged("a", high=1))[0][0],
                         (0, 1, 1, 2, 2, 3, 3, 4, 4, 0))

    def test_by_the_words_of_the_promise(self):
        chance = random.Random(23)
        for wide, high in itertools.product((1, 2, 3, 8), repeat=2):
            planes, depth = chance.randint(1, 4), chance.choice(DEPTHS)
            below = some_source(chance, planes, depth)
            of = upon(below)[1]
            shape, floor = upon(below, enlarged("a", wide=wide, high=high))
            self.assertEqual(shape, (planes, depth))
            for x, y in [*itertools.product(range(-17, 18), repeat=2), *FAR_CELLS]:
                self.assertEqual(floor(x, y), of(x // wide, y // high))

    def test_reduced_again_it_is_as_it_was(self):
        chance = random.Random(24)
        window = (-9, -9, 18, 18)
        for wide, high in ((1, 1), (2, 3), (8, 8)):
            below = some_source(chance, 2, 65535)
            again = seen(self, window, below, enlarged("a", wide=wide, high=high), reduced("b", wide=wide, high=high))
            self.assertEqual(again, seen(self, window, below))


def pair_of(of, across, x, y):
    if across:
        return of(2 * x, y), of(2 * x + 1, y)
    return of(x, 2 * y), of(x, 2 * y + 1)


def bands(below, across):
    """The near and the far band of a source, each as (shape, floor)."""
    return upon(below, near_band("a", across=across)), upon(below, far_band("a", across=across))


class Bands(unittest.TestCase):
    def test_by_hand(self):
        numbers = row(9, 4, 4, 9, 7, 7, depth=9)
        self.assertEqual(seen(self, (-1, 0, 5, 1), numbers, far_band("a"))[0][0], (0, 5, 5, 0, 0))
        self.assertEqual(seen(self, (-1, 0, 5, 1), numbers, near_band("a"))[0][0], (0, 6, 1, 7, 0))
        numbers = column(9, 4, 4, 9, 7, 7, depth=9)
        self.assertEqual(seen(self, (0, -1, 1, 5), numbers, far_band("a", across=False))[0],
                         ((0,), (5,), (5,), (0,), (0,)))
        self.assertEqual(seen(self, (0, -1, 1, 5), numbers, near_band("a", across=False))[0],
                         ((0,), (6,), (1,), (7,), (0,)))

    def test_across_is_what_is_left_out(self):
        below = some_source(random.Random(25), 2, 255)
        window = (-6, -6, 12, 12)
        for maker in (near_band, far_band):
            across = seen(self, window, below, maker("a", across=True))
            self.assertEqual(seen(self, window, below, maker("a")), across)
            self.assertNotEqual(seen(self, window, below, maker("a", across=False)), across)

    def test_the_rest_by_the_depth_and_one(self):
        self.assertEqual(upon(row(0, 1, depth=1), far_band("a"))[1](0, 0), (1,))
        self.assertEqual(upon(row(0, 1, depth=1), near_band("a"))[1](0, 0), (1,))
        self.assertEqual(upon(row(0, 65535, depth=65535), far_band("a"))[1](0, 0), (1,))
        self.assertEqual(upon(row(0, 65535, depth=65535), near_band("a"))[1](0, 0), (65535,))
        self.assertEqual(upon(row(1, 65535, depth=65535), far_band("a"))[1](0, 0), (2,))
        self.assertEqual(upon(row(1, 65535, depth=65535), near_band("a"))[1](0, 0), (0,))

    def test_by_the_words_of_the_promise(self):
        chance = random.Random(26)
        for depth, across in itertools.product(DEPTHS, (True, False)):
            for planes in range(1, 5):
                below = some_source(chance, planes, depth)
                of = upon(below)[1]
                near, far = bands(below, across)
                self.assertEqual((near[0], far[0]), ((planes, depth), (planes, depth)))
                for x, y in [*itertools.product(range(-5, 6), repeat=2), *FAR_CELLS]:
                    nears, fars = [], []
                    for a, b in zip(*pair_of(of, across, x, y)):
                        fars.append(rest(a - b, depth + 1))
                        nears.append(rest(b + fars[-1] // 2, depth + 1))
                    self.assertEqual((near[1](x, y), far[1](x, y)), (tuple(nears), tuple(fars)))


class Paired(unittest.TestCase):
    def test_by_hand(self):
        near, far = upon(row(6, 1, 7, depth=9)), upon(row(5, 5, 0, depth=9))
        shape, floor = joined(paired("a", "b"), near, far)
        self.assertEqual(shape, (1, 9))
        self.assertEqual([floor(x, 0)[0] for x in range(-2, 8)], [0, 0, 9, 4, 4, 9, 7, 7, 0, 0])
        near, far = upon(column(6, 1, 7, depth=9)), upon(column(5, 5, 0, depth=9))
        floor = joined(paired("a", "b", across=False), near, far)[1]
        self.assertEqual([floor(0, y)[0] for y in range(-2, 8)], [0, 0, 9, 4, 4, 9, 7, 7, 0, 0])

    def test_which_is_near_and_which_is_far(self):
        near, far = upon(row(8)), upon(row(4))
        self.assertEqual([joined(paired("a", "b"), near, far)[1](x, 0) for x in (0, 1)], [(10,), (6,)])
        self.assertEqual([joined(paired("a", "b"), far, near)[1](x, 0) for x in (0, 1)], [(8,), (0,)])

    def test_by_the_words_of_the_promise(self):
        chance = random.Random(27)
        for depth, across in itertools.product(DEPTHS, (True, False)):
            for planes in range(1, 5):
                near, far = [upon(some_source(chance, planes, depth)) for _ in range(2)]
                shape, floor = joined(paired("a", "b", across=across), near, far)
                self.assertEqual(shape, (planes, depth))
                for x, y in [*itertools.product(range(-5, 6), repeat=2), *FAR_CELLS]:
                    cell = (x // 2, y) if across else (x, y // 2)
                    is_even = (x if across else y) // 2 * 2 == (x if across else y)
                    wanted = []
                    for n, f in zip(near[1](*cell), far[1](*cell)):
                        b = rest(n - f // 2, depth + 1)
                        wanted.append(rest(b + f, depth + 1) if is_even else b)
                    self.assertEqual(floor(x, y), tuple(wanted))

    def test_every_pair_comes_back(self):
        for depth in (1, 2, 5, 8):
            for a, b in itertools.product(range(depth + 1), repeat=2):
                floor = joined(paired("a", "b"), *bands(row(a, b, depth=depth), True))[1]
                self.assertEqual((floor(0, 0), floor(1, 0)), ((a,), (b,)))

    def test_bands_paired_again_are_the_picture_as_it_was(self):
        chance = random.Random(28)
        for depth, across in itertools.product(DEPTHS, (True, False)):
            for planes in range(1, 5):
                below = some_source(chance, planes, depth)
                of = upon(below)[1]
                floor = joined(paired("a", "b", across=across), *bands(below, across))[1]
                for x, y in [*itertools.product(range(-12, 13), repeat=2), *FAR_CELLS]:
                    self.assertEqual(floor(x, y), of(x, y))


if __name__ == "__main__":
    unittest.main()
