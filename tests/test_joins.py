"""Promise 16: two met, one of two chosen, own defs."""

import itertools
import random
import unittest

from helper import OTHER_KINDS, joined, refuses, some_planes, upon
from pixelstages.errors import NoTone
from pixelstages.pictures import Picture
from pixelstages.stages import MIRRORED, NEAR, WRAPPED, chosen, met, own, source

DEPTHS = (1, 2, 9, 255, 65535)
CELLS = (*itertools.product(range(-7, 8), repeat=2), (-1000000, 1000000), (999999, -1000000))


def row(*numbers, depth=255, border=0):
    return upon(source(Picture(((numbers,),), depth=depth), border=border))


def some_floor(chance, planes, depth):
    picture = Picture(some_planes(chance, planes, chance.randint(1, 5), chance.randint(1, 5), depth),
                      left=chance.randint(-3, 3), up=chance.randint(-3, 3), depth=depth)
    return upon(source(picture, border=chance.choice((NEAR, WRAPPED, MIRRORED, 0, depth))))


def by_words(how, a, b, depth):
    if how == "least":
        return a if a < b else b
    if how == "greatest":
        return b if a < b else a
    if how == "sum":
        return depth if a + b > depth else a + b
    return a - b if a > b else b - a


class Met(unittest.TestCase):
    def test_by_hand(self):
        one, other = row(3, 200, 7, 0), row(5, 100, 7, 0)
        for how, told in (("least", [3, 100, 7, 0]), ("greatest", [5, 200, 7, 0]), ("sum", [8, 255, 14, 0]),
                          ("gap", [2, 100, 0, 0])):
            for below in ((one, other), (other, one)):
                shape, floor = joined(met("a", "b", how=how), *below)
                self.assertEqual(shape, (1, 255))
                self.assertEqual([floor(x, 0)[0] for x in range(4)], told, how)

    def test_least_is_what_is_left_out(self):
        self.assertEqual(joined(met("a", "b"), row(3), row(5))[1](0, 0), (3,))

    def test_a_sum_just_at_the_depth(self):
        for depth in DEPTHS:
            one = row(depth - 1, depth, depth, depth=depth)
            floor = joined(met("a", "b", how="sum"), one, row(1, 0, 1, depth=depth))[1]
            self.assertEqual([floor(x, 0)[0] for x in range(3)], [depth] * 3)

    def test_with_itself(self):
        one = row(3, 200)
        for how, told in (("least", [3, 200]), ("greatest", [3, 200]), ("sum", [6, 255]), ("gap", [0, 0])):
            floor = joined(met("a", "a", how=how), one, one)[1]
            self.assertEqual([floor(x, 0)[0] for x in range(2)], told)

    def test_by_the_words_of_the_promise(self):
        chance = random.Random(31)
        for depth, how in itertools.product(DEPTHS, ("least", "greatest", "sum", "gap")):
            for planes in range(1, 5):
                one, other = some_floor(chance, planes, depth), some_floor(chance, planes, depth)
                shape, floor = joined(met("a", "b", how=how), one, other)
                self.assertEqual(shape, (planes, depth))
                for x, y in CELLS:
                    wanted = [by_words(how, a, b, depth) for a, b in zip(one[1](x, y), other[1](x, y))]
                    self.assertEqual(floor(x, y), tuple(wanted))


class Chosen(unittest.TestCase):
    def test_by_hand(self):
        floor = joined(chosen("a", "b", "c"), row(1, 2, 3), row(4, 5, 6), row(0, 1, 255))[1]
        self.assertEqual([floor(x, 0)[0] for x in range(3)], [4, 2, 3])

    def test_plane_0_of_the_third_alone(self):
        mask = upon(source(Picture((((0, 1),), ((9, 0),), ((9, 0),)))))
        floor = joined(chosen("a", "b", "c"), row(1, 2), row(4, 5), mask)[1]
        self.assertEqual([floor(x, 0)[0] for x in range(2)], [4, 2])

    def test_the_third_may_have_another_shape(self):
        chance = random.Random(32)
        for depth, other_depth in itertools.product(DEPTHS, repeat=2):
            planes, other_planes = chance.randint(1, 4), chance.randint(1, 4)
            one, other = some_floor(chance, planes, depth), some_floor(chance, planes, depth)
            mask = some_floor(chance, other_planes, other_depth)
            shape, floor = joined(chosen("a", "b", "c"), one, other, mask)
            self.assertEqual(shape, (planes, depth))
            for x, y in CELLS:
                wanted = one[1](x, y) if mask[1](x, y)[0] > 0 else other[1](x, y)
                self.assertEqual(floor(x, y), wanted)


class Own(unittest.TestCase):
    def test_what_a_def_is_told(self):
        chance = random.Random(33)
        for planes in range(1, 5):
            below = some_floor(chance, planes, 9)
            told = []

            def tell(numbers):
                told.append(numbers)
                return max(numbers)
            shape, floor = joined(own("a", tell), below)
            self.assertEqual(shape, (1, 9))
            for x, y in CELLS:
                self.assertEqual(floor(x, y), (max(below[1](x, y)),))
                self.assertEqual(told[-1], below[1](x, y))
                self.assertIs(type(told[-1]), tuple)

    def test_just_at_the_bounds(self):
        for depth in DEPTHS:
            for number in (0, depth):
                self.assertEqual(joined(own("a", lambda numbers: number), row(1, depth=depth))[1](5, 5), (number,))

    def test_another_thing_is_refused_with_the_cell(self):
        for depth in DEPTHS:
            for thing in (-1, depth + 1, 10 ** 20, -10 ** 20, 0.0, *OTHER_KINDS):
                for cell in ((0, 0), (-3, 8), (1000000, -1000000)):
                    floor = joined(own("a", lambda numbers: thing), row(1, depth=depth))[1]
                    self.assertEqual(refuses(self, NoTone, floor, *cell).cell, cell)

    def test_only_where_it_tells_another_thing(self):
        floor = joined(own("a", lambda numbers: 3 if numbers[0] < 5 else None), row(4, 5, 4))[1]
        self.assertEqual((floor(0, 0), floor(2, 0), floor(-1, 0)), ((3,), (3,), (3,)))
        self.assertEqual(refuses(self, NoTone, floor, 1, 0).cell, (1, 0))

    def test_an_error_that_it_raises_comes_out_as_it_is(self):
        for error in (KeyError("k"), ValueError(), ZeroDivisionError(), IndexError(), StopIteration(), TypeError(),
                      RuntimeError("so"), NoTone((7, 7)), KeyboardInterrupt()):
            def tell(numbers):
                raise error
            floor = joined(own("a", tell), row(1))[1]
            with self.assertRaises(BaseException) as caught:
                floor(0, 0)
            self.assertIs(caught.exception, error)


if __name__ == "__main__":
    unittest.main()
