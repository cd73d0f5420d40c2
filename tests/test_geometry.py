"""Promises 6, 7 and 8: shapes, borders, sources, frames, moves, flips, turns, tables."""

import random
import unittest

from helper import rest, seen, some_planes, upon
from pixelstages.pictures import Picture
from pixelstages.stages import MIRRORED, NEAR, WRAPPED, curved, flipped, framed, moved, source, turned

BORDERS = (NEAR, WRAPPED, MIRRORED, 0, 7, 9)
ROW = Picture((((10, 20, 30),),), left=-1, depth=40)


def numbered(wide, high, **named):
    """A picture of one plane whose numbers are all unlike."""
    return Picture((tuple([tuple([wide * y + x for x in range(wide)]) for y in range(high)]),), **named)


def place(border, at, many):
    """Where one place comes to, by the words of promise 7."""
    if 0 <= at < many:
        return at
    if border == NEAR:
        return 0 if at < 0 else many - 1
    if border == WRAPPED:
        return rest(at, many)
    r = rest(at, 2 * many)
    return 2 * many - 1 - r if r >= many else r


def beyond(of, window, border, x, y, p):
    left, up, wide, high = window
    is_inside = left <= x <= left + wide - 1 and up <= y <= up + high - 1
    if not is_inside and border not in (NEAR, WRAPPED, MIRRORED):
        return border
    return of(left + place(border, x - left, wide), up + place(border, y - up, high), p)


class Borders(unittest.TestCase):
    def along(self, border, low, many):
        across = seen(self, (low, 0, many, 1), source(ROW, border=border))[0][0]
        column = Picture((((10,), (20,), (30,)),), up=-1, depth=40)
        down = seen(self, (0, low, 1, many), source(column, border=border))[0]
        self.assertEqual(tuple([number for number, in down]), across)
        return across

    def test_one_row_and_one_column(self):
        self.assertEqual(self.along(NEAR, -4, 10), (10, 10, 10, 10, 20, 30, 30, 30, 30, 30))
        self.assertEqual(self.along(WRAPPED, -4, 10), (10, 20, 30, 10, 20, 30, 10, 20, 30, 10))
        self.assertEqual(self.along(MIRRORED, -5, 12), (30, 30, 20, 10, 10, 20, 30, 30, 20, 10, 10, 20))
        self.assertEqual(self.along(7, -4, 10), (7, 7, 7, 10, 20, 30, 7, 7, 7, 7))
        self.assertEqual(self.along(0, -2, 5), (0, 10, 20, 30, 0))

    def test_near_is_what_is_left_out(self):
        self.assertEqual(seen(self, (-4, -2, 10, 4), source(ROW)), seen(self, (-4, -2, 10, 4), source(ROW, border=NEAR)))

    def test_far_beyond(self):
        told = {}
        for border in (NEAR, WRAPPED, MIRRORED, 7):
            floor = upon(source(ROW, border=border))[1]
            told[border] = [floor(x, 0)[0] for x in (-1000000, 1000000)]
        self.assertEqual(told, {NEAR: [10, 30], WRAPPED: [10, 30], MIRRORED: [30, 10], 7: [7, 7]})

    def test_one_cell(self):
        for border in BORDERS:
            for left, up in ((0, 0), (-3, 4)):
                picture = Picture((((5,),), ((6,),)), left=left, up=up, depth=9)
                floor = upon(source(picture, border=border))[1]
                for x, y in ((0, 0), (-1, 0), (0, 1), (1, 1), (-50, 70), (-1000000, 1000000)):
                    told = (border, border) if isinstance(border, int) and (x, y) != (0, 0) else (5, 6)
                    self.assertEqual(floor(left + x, up + y), told)

    def test_corners(self):
        picture = numbered(3, 2, left=10, up=-20)
        corners = ((9, -21), (13, -21), (9, -18), (13, -18))
        told = {}
        for border in (NEAR, WRAPPED, MIRRORED, 8):
            floor = upon(source(picture, border=border))[1]
            told[border] = [floor(x, y)[0] for x, y in corners]
        self.assertEqual(told, {NEAR: [0, 2, 3, 5], WRAPPED: [5, 3, 2, 0], MIRRORED: [0, 2, 3, 5], 8: [8] * 4})

    def test_every_cell_about_pictures_of_all_forms(self):
        chance = random.Random(7)
        for border in BORDERS:
            for wide, high, planes in ((1, 1, 1), (4, 1, 2), (1, 5, 1), (3, 2, 4), (2, 4, 3)):
                for left, up in ((0, 0), (-2, 3), (5, -6), (-1000, 1000)):
                    picture = Picture(some_planes(chance, planes, wide, high, 9), left=left, up=up, depth=9)
                    self.every_cell(picture, border)

    def every_cell(self, picture, border):
        left, up, wide, high = picture.window()
        shape, floor = upon(source(picture, border=border))
        self.assertEqual(shape, (len(picture.planes), 9))

        def of(x, y, p):
            return picture.at(x, y, plane=p)
        for y in range(up - 2 * high - 2, up + 3 * high + 3):
            for x in range(left - 2 * wide - 2, left + 3 * wide + 3):
                told = [beyond(of, picture.window(), border, x, y, p) for p in range(shape[0])]
                self.assertEqual(floor(x, y), tuple(told), (picture, border, x, y))


class Frames(unittest.TestCase):
    def test_within_across_and_beyond_a_picture(self):
        picture = source(ROW)
        self.assertEqual(seen(self, (-3, 0, 6, 1), picture, framed("a", (0, 0, 2, 1)))[0][0], (20, 20, 20, 20, 30, 30))
        wrapped = framed("a", (-1, 0, 2, 1), border=WRAPPED)
        self.assertEqual(seen(self, (-3, 0, 6, 1), picture, wrapped)[0][0], (10, 20, 10, 20, 10, 20))
        mirrored = framed("a", (0, 0, 3, 1), border=MIRRORED)
        self.assertEqual(seen(self, (-3, 0, 9, 1), picture, mirrored)[0][0], (30, 30, 20, 20, 30, 30, 30, 30, 20))
        noughts = source(ROW, border=0)
        self.assertEqual(seen(self, (-3, 0, 7, 1), noughts, framed("a", (1, 0, 2, 1), border=5))[0][0],
                         (5, 5, 5, 5, 30, 0, 5))
        self.assertEqual(seen(self, (-3, 0, 7, 1), noughts, framed("a", (40, 8, 2, 2)))[0][0], (0,) * 7)
        self.assertEqual(seen(self, (39, 7, 4, 4), source(ROW, border=3), framed("a", (40, 8, 2, 2), border=9))[0],
                         ((9,) * 4, (9, 3, 3, 9), (9, 3, 3, 9), (9,) * 4))

    def test_near_is_what_is_left_out(self):
        self.assertEqual(seen(self, (-5, 0, 9, 1), source(ROW), framed("a", (0, 0, 1, 1)))[0][0], (20,) * 9)

    def test_frames_upon_frames(self):
        chance = random.Random(11)
        picture = Picture(some_planes(chance, 2, 4, 3, 9), left=-1, up=1, depth=9)
        for inner_border in BORDERS:
            for outer_border in BORDERS:
                for inner, outer in (((0, 1, 2, 2), (-1, 0, 4, 4)), ((-3, -2, 5, 6), (0, 2, 1, 2)),
                                     ((-4, 0, 3, 2), (9, -9, 2, 3)), ((1, 1, 1, 1), (1, 1, 2, 1))):
                    self.frame_upon_frame(picture, (inner, inner_border), (outer, outer_border))

    def frame_upon_frame(self, picture, inner, outer):
        def of(x, y, p):
            return beyond(lambda x, y, p: picture.at(x, y, plane=p), picture.window(), WRAPPED, x, y, p)

        def of_inner(x, y, p):
            return beyond(of, inner[0], inner[1], x, y, p)
        shape, floor = upon(source(picture, border=WRAPPED), framed("a", inner[0], border=inner[1]),
                            framed("b", outer[0], border=outer[1]))
        self.assertEqual(shape, (2, 9))
        for y in range(-12, 9):
            for x in range(-8, 14):
                told = tuple([beyond(of_inner, outer[0], outer[1], x, y, p) for p in (0, 1)])
                self.assertEqual(floor(x, y), told, (inner, outer, x, y))


class Moves(unittest.TestCase):
    def setUp(self):
        self.chance = random.Random(3)
        self.picture = Picture(some_planes(self.chance, 3, 5, 4, 99), left=-2, up=-1, depth=99)
        self.below = source(self.picture, border=WRAPPED)
        self.of = upon(self.below)[1]

    def cells(self):
        return [(x, y) for y in range(-9, 9) for x in range(-9, 9)] + [(-1000000, 1000000), (499, -501)]

    def comes_from(self, stage, cell_of):
        shape, floor = upon(self.below, stage)
        self.assertEqual(shape, (3, 99))
        for x, y in self.cells():
            self.assertEqual(floor(x, y), self.of(*cell_of(x, y)), (stage, x, y))

    def test_moved(self):
        for right, down in ((0, 0), (1, 0), (0, 1), (-1, 2), (3, -4), (500, -500), (-500, 500)):
            self.comes_from(moved("a", right=right, down=down), lambda x, y: (x - right, y - down))
        self.comes_from(moved("a"), lambda x, y: (x, y))

    def test_moved_to_the_right_and_down(self):
        picture = source(numbered(2, 2), border=9)
        self.assertEqual(seen(self, (0, 0, 4, 3), picture, moved("a", right=2, down=1)),
                         (((9, 9, 9, 9), (9, 9, 0, 1), (9, 9, 2, 3)),))

    def test_flipped(self):
        self.comes_from(flipped("a"), lambda x, y: (-x, y))
        self.comes_from(flipped("a", across=True), lambda x, y: (-x, y))
        self.comes_from(flipped("a", across=False), lambda x, y: (x, -y))

    def test_flipped_about_the_cell_0(self):
        picture = source(numbered(2, 2), border=9)
        self.assertEqual(seen(self, (-1, 0, 3, 2), picture, flipped("a")), (((1, 0, 9), (3, 2, 9)),))
        self.assertEqual(seen(self, (0, -1, 2, 3), picture, flipped("a", across=False)), (((2, 3), (0, 1), (9, 9)),))

    def test_turned(self):
        self.comes_from(turned("a"), lambda x, y: (y, x))
        self.assertEqual(seen(self, (0, 0, 2, 3), source(numbered(3, 2)), turned("a")), (((0, 3), (1, 4), (2, 5)),))

    def test_one_upon_another(self):
        window = (-7, -7, 14, 14)
        both_ways = seen(self, window, self.below, turned("a"), flipped("b"), moved("c", right=2))
        told = tuple([tuple([tuple([self.of(y, 2 - x)[p] for x in range(-7, 7)]) for y in range(-7, 7)])
                      for p in range(3)])
        self.assertEqual(both_ways, told)


class Tables(unittest.TestCase):
    def setUp(self):
        self.picture = Picture((((0, 1, 2, 3),), ((3, 3, 0, 1),)), depth=3)

    def told(self, table, border, **named):
        stages = (source(self.picture, border=border), curved("a", table, **named))
        return upon(*stages)[0], seen(self, (-1, 0, 6, 1), *stages)

    def test_to_the_same_depth(self):
        planes = (((1, 0, 1, 3, 3, 1),), ((1, 3, 3, 0, 1, 1),))
        self.assertEqual(self.told((0, 1, 3, 3), 1), ((2, 3), planes))
        self.assertEqual(self.told((0, 1, 3, 3), 1, depth=None), ((2, 3), planes))
        self.assertEqual(self.told((0, 1, 3, 3), 1, depth=3), ((2, 3), planes))

    def test_to_a_lesser_depth(self):
        self.assertEqual(self.told((0, 0, 1, 1), 0, depth=1), ((2, 1), (((0, 0, 0, 1, 1, 0),), ((0, 1, 1, 0, 0, 0),))))

    def test_to_a_greater_depth(self):
        planes = (((7, 65535, 500, 0, 7, 7),), ((7, 7, 7, 65535, 500, 7),))
        self.assertEqual(self.told((65535, 500, 0, 7), 3, depth=65535), ((2, 65535), planes))

    def test_a_table_behind_another(self):
        shape, floor = upon(source(self.picture), curved("a", (1, 0, 1, 1), depth=1), curved("b", (9, 4), depth=9))
        self.assertEqual(shape, (2, 9))
        self.assertEqual([floor(x, 0) for x in (0, 1, 2, 3)], [(4, 4), (9, 4), (4, 4), (4, 9)])


if __name__ == "__main__":
    unittest.main()
