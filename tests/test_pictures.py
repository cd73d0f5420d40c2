"""Promise 5, and of 2 and 3 what pictures need of them."""

import unittest
from unittest import mock

from helper import OTHER_KINDS, keeps, parts_spoilt, refuses
from pixelstages.errors import NoPicture, NoWindow
from pixelstages.pictures import DEPTH, Picture

TWO_PLANES = (((1, 2, 3), (4, 5, 6)), ((7, 8, 9), (10, 11, 12)))


def of_size(wide, high, planes=1, number=0):
    return (((number,) * wide,) * high,) * planes


class RightPictures(unittest.TestCase):
    def test_what_is_left_out(self):
        picture = keeps(self, Picture, TWO_PLANES)
        self.assertEqual(DEPTH, 255)
        self.assertEqual((picture.planes, picture.left, picture.up, picture.depth), (TWO_PLANES, 0, 0, 255))
        self.assertEqual(picture.window(), (0, 0, 3, 2))
        self.assertIs(type(picture.window()), tuple)

    def test_what_is_handed_in_by_name_in_any_order(self):
        for named in ({"left": -3, "up": 7, "depth": 12}, {"depth": 12, "up": 7, "left": -3}):
            picture = Picture(TWO_PLANES, **named)
            self.assertEqual((picture.left, picture.up, picture.depth), (-3, 7, 12))
            self.assertEqual(picture.window(), (-3, 7, 3, 2))
        self.assertEqual(Picture(TWO_PLANES, up=9).window(), (0, 9, 3, 2))
        self.assertEqual(Picture(TWO_PLANES, left=9).window(), (9, 0, 3, 2))

    def test_the_named_ones_have_no_place(self):
        with self.assertRaises(TypeError):
            Picture(TWO_PLANES, 0)
        with self.assertRaises(TypeError):
            Picture(TWO_PLANES).at(0, 0, 0)

    def test_the_bounds(self):
        for planes in (1, 2, 3, 4):
            for wide, high in ((1, 1), (48, 1), (1, 48), (48, 48)):
                picture = Picture(of_size(wide, high, planes))
                self.assertEqual(picture.window(), (0, 0, wide, high))
                self.assertEqual(len(picture.planes), planes)
                self.assertEqual(len(picture), wide * high)
        for edge in (-1000, 1000):
            self.assertEqual(Picture(of_size(2, 3), left=edge).window(), (edge, 0, 2, 3))
            self.assertEqual(Picture(of_size(2, 3), up=edge).window(), (0, edge, 2, 3))
        for depth in (1, 65535):
            picture = Picture((((0, depth),),), depth=depth)
            self.assertEqual((picture.depth, picture.at(0, 0), picture.at(1, 0)), (depth, 0, depth))

    def test_at(self):
        picture = Picture(TWO_PLANES, left=-1, up=5)
        for plane in (0, 1):
            for y in (5, 6):
                for x in (-1, 0, 1):
                    number = TWO_PLANES[plane][y - 5][x + 1]
                    self.assertEqual(picture.at(x, y, plane=plane), number)
                    if plane == 0:
                        self.assertEqual(picture.at(x, y), number)

    def test_len(self):
        self.assertEqual(len(Picture(TWO_PLANES)), 6)
        self.assertEqual(len(Picture((((0,),),))), 1)
        self.assertEqual(len(Picture((((0,), (0,), (0,)),))), 3)

    def test_str(self):
        self.assertEqual(str(Picture(TWO_PLANES, left=4)), "1 2 3\n4 5 6\n7 8 9\n10 11 12")
        self.assertEqual(str(Picture((((0,),),))), "0")
        self.assertEqual(str(Picture((((10, 0),),))), "10 0")
        self.assertEqual(str(Picture((((3,),), ((65535,),)), depth=65535)), "3\n65535")

    def test_repr(self):
        self.assertEqual(repr(Picture((((1, 2, 3), (4, 5, 6)),))), "Picture(0 0 3 2, 1, 255)")
        self.assertEqual(repr(Picture(TWO_PLANES, left=-7, up=1000, depth=12)), "Picture(-7 1000 3 2, 2, 12)")
        self.assertEqual(repr(Picture(of_size(1, 48, 4), up=-1, depth=65535)), "Picture(0 -1 1 48, 4, 65535)")


class NoPictures(unittest.TestCase):
    def test_what_is_no_tuple_of_planes(self):
        for thing in (*OTHER_KINDS, 5):
            refuses(self, NoPicture, Picture, thing)

    def test_what_is_no_tuple_of_rows(self):
        for thing in (*OTHER_KINDS, 5):
            refuses(self, NoPicture, Picture, (thing,))
            refuses(self, NoPicture, Picture, (((0,),), thing))
            refuses(self, NoPicture, Picture, (thing, ((0,),)))

    def test_what_is_no_tuple_of_numbers(self):
        for thing in (*[kind for kind in OTHER_KINDS if kind != (1,)], 5):
            refuses(self, NoPicture, Picture, ((thing,),))
            refuses(self, NoPicture, Picture, (((0,), thing),))
            refuses(self, NoPicture, Picture, (((0,),), (thing,)))

    def test_lists_at_each_level(self):
        for planes in ([((0,),)], ([(0,)],), (([0],),), [[[0]]]):
            refuses(self, NoPicture, Picture, planes)

    def test_what_is_no_number(self):
        for thing in (*OTHER_KINDS, -1, 256):
            refuses(self, NoPicture, Picture, (((thing,),),))
            refuses(self, NoPicture, Picture, (((0, 0), (0, 0)), ((0, 0), (0, thing))))

    def test_numbers_beyond_a_depth(self):
        refuses(self, NoPicture, Picture, (((13,),),), depth=12)
        refuses(self, NoPicture, Picture, (((2,),),), depth=1)
        refuses(self, NoPicture, Picture, (((65536,),),), depth=65535)

    def test_how_many(self):
        for planes in ((), of_size(1, 1, 5), of_size(49, 1), of_size(1, 49), of_size(0, 1), of_size(1, 0)):
            refuses(self, NoPicture, Picture, planes)

    def test_unlike_many(self):
        refuses(self, NoPicture, Picture, (((0,), (0,)), ((0,),)))
        refuses(self, NoPicture, Picture, (((0,),), ((0,), (0,))))
        refuses(self, NoPicture, Picture, (((0, 0), (0,)),))
        refuses(self, NoPicture, Picture, (((0,), (0, 0)),))
        refuses(self, NoPicture, Picture, (((0,),), ((0, 0),)))

    def test_each_part_spoilt(self):
        """No length is asked of what is no tuple, wherever it stands among right ones."""
        for planes in parts_spoilt((((0, 1), (2, 3)), ((4, 5), (6, 7)), ((8, 9), (1, 1))), OTHER_KINDS):
            refuses(self, NoPicture, Picture, planes)

    def test_left_and_up(self):
        for thing in (-1001, 1001, 10 ** 20, *OTHER_KINDS):
            refuses(self, NoPicture, Picture, TWO_PLANES, left=thing)
            refuses(self, NoPicture, Picture, TWO_PLANES, up=thing)

    def test_depth(self):
        for thing in (0, -1, 65536, *OTHER_KINDS):
            refuses(self, NoPicture, Picture, TWO_PLANES, depth=thing)
            refuses(self, NoPicture, Picture, (((0,),),), depth=thing)


class Edges(unittest.TestCase):
    def setUp(self):
        self.picture = Picture(TWO_PLANES, left=-1, up=5, depth=100)

    def refused(self, *cell, **named):
        refuses(self, NoWindow, self.picture.at, *cell, **named)
        self.assertEqual(self.picture, Picture(TWO_PLANES, left=-1, up=5, depth=100))

    def test_just_within(self):
        corners = [self.picture.at(x, y) for y in (5, 6) for x in (-1, 1)]
        self.assertEqual(corners, [1, 3, 4, 6])

    def test_one_beyond_each_edge(self):
        for x in (-1, 0, 1):
            self.refused(x, 4)
            self.refused(x, 7)
        for y in (5, 6):
            self.refused(-2, y)
            self.refused(2, y)

    def test_far_off(self):
        for far in (-1000000, 1000000, 10 ** 20):
            self.refused(far, 5)
            self.refused(0, far)

    def test_what_is_no_whole_number(self):
        at_nought = Picture(of_size(2, 2))
        for thing in OTHER_KINDS:
            refuses(self, NoWindow, at_nought.at, thing, 0)
            refuses(self, NoWindow, at_nought.at, 0, thing)

    def test_what_is_no_plane(self):
        for thing in (-1, -2, 2, 4, 10 ** 20, *OTHER_KINDS):
            self.refused(0, 5, plane=thing)
        self.assertEqual(self.picture.at(0, 5, plane=1), 8)


class Equality(unittest.TestCase):
    def setUp(self):
        self.picture = Picture(TWO_PLANES, left=2, up=3, depth=20)

    def test_equal(self):
        other = Picture(tuple([tuple([tuple(list(row)) for row in plane]) for plane in TWO_PLANES]),
                        left=2, up=3, depth=20)
        self.assertIs(self.picture == other, True)
        self.assertIs(other == self.picture, True)
        self.assertIs(self.picture != other, False)
        self.assertIs(other != self.picture, False)
        self.assertIs(Picture(TWO_PLANES) == Picture(TWO_PLANES, left=0, up=0, depth=255), True)

    def unlike(self, other):
        self.assertIs(self.picture == other, False, repr(other))
        self.assertIs(other == self.picture, False, repr(other))
        self.assertIs(self.picture != other, True, repr(other))
        self.assertIs(other != self.picture, True, repr(other))

    def test_just_one_thing_otherwise(self):
        self.unlike(Picture(TWO_PLANES, left=1, up=3, depth=20))
        self.unlike(Picture(TWO_PLANES, left=2, up=4, depth=20))
        self.unlike(Picture(TWO_PLANES, left=2, up=3, depth=21))
        self.unlike(Picture(TWO_PLANES[:1], left=2, up=3, depth=20))
        changed = (TWO_PLANES[0], ((7, 8, 9), (10, 11, 13)))
        self.unlike(Picture(changed, left=2, up=3, depth=20))

    def test_cut_in_other_rows(self):
        one = Picture((((1, 2), (3, 4)),))
        self.assertNotEqual(one, Picture((((1, 2, 3, 4),),)))
        self.assertNotEqual(one, Picture((((1, 2),), ((3, 4),))))

    def test_nothing_else(self):
        for thing in (*OTHER_KINDS, 0, 6, TWO_PLANES, str(self.picture), repr(self.picture), object()):
            self.unlike(thing)
        self.assertIs(self.picture == mock.ANY, False)


class Kept(unittest.TestCase):
    def test_what_was_handed_in_stays_its_own(self):
        rows = [[1, 2], [3, 4]]
        picture = Picture((tuple([tuple(row) for row in rows]),))
        rows[0][0] = 9
        self.assertEqual(picture.at(0, 0), 1)

    def test_asking_changes_nothing(self):
        picture = Picture(TWO_PLANES, left=2)
        for ask in (picture.window, picture.__len__, picture.__str__, picture.__repr__):
            self.assertEqual(ask(), ask())
        self.assertEqual(keeps(self, picture.at, 2, 0), 1)
        self.assertEqual((picture.planes, picture.left, picture.up, picture.depth), (TWO_PLANES, 2, 0, 255))


if __name__ == "__main__":
    unittest.main()
