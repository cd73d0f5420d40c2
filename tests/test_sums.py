"""Promise 15: sums from a corner, what undoes them, levels."""

import itertools
import random
import unittest

from helper import Asked, inside, rest, seen, some_border, some_picture, upon
from pixelstages.pictures import Picture
from pixelstages.stages import levelled, source, summed, unsummed
from pixelstages.sums import levelled_floor, summed_floor

DEPTHS = (1, 2, 9, 255, 65535)
# About pictures that lie between -4 and 8: over them, beside them, below 0, at the ends of what may be.
WINDOWS = ((0, 0, 1, 1), (-5, -5, 14, 14), (-2, -3, 4, 2), (20, 0, 3, 3), (0, -30, 2, 5), (-40, -40, 6, 6),
           (-1000, 1000, 2, 2), (1000, -1000, 3, 1))


def some_source(chance, planes, depth):
    return source(some_picture(chance, planes, depth), border=some_border(chance, depth))


def about(window):
    """The cells of a window and those about it."""
    left, up, wide, high = window
    return inside((left - 2, up - 2, wide + 4, high + 4))


class Summed(unittest.TestCase):
    def test_by_hand(self):
        picture = source(Picture((((1, 2, 3), (4, 5, 6)),), depth=20))
        self.assertEqual(seen(self, (-1, -1, 5, 4), picture, summed("a", (0, 0, 3, 2)))[0],
                         ((0,) * 5, (0, 1, 3, 6, 0), (0, 5, 12, 0, 0), (0,) * 5))
        self.assertEqual(seen(self, (0, 0, 3, 2), picture, summed("a", (1, 1, 2, 1)))[0], ((0, 0, 0), (0, 5, 11)))
        self.assertEqual(seen(self, (-2, -1, 4, 2), picture, summed("a", (-2, -1, 4, 2)))[0],
                         ((1, 2, 3, 5), (2, 4, 6, 10)))

    def test_beside_a_picture_its_border_is_summed(self):
        picture = source(Picture((((1, 2),),), depth=9), border=3)
        self.assertEqual(seen(self, (10, 10, 2, 2), picture, summed("a", (10, 10, 2, 2)))[0], ((3, 6), (6, 2)))

    def test_the_rest_by_the_depth_and_one(self):
        for depth in DEPTHS:
            picture = source(Picture((((1, depth, depth),),), depth=depth))
            self.assertEqual(seen(self, (0, 0, 3, 1), picture, summed("a", (0, 0, 3, 1)))[0][0], (1, 0, depth))

    def test_by_the_words_of_the_promise(self):
        chance = random.Random(41)
        for depth, window in itertools.product(DEPTHS, WINDOWS):
            planes = chance.randint(1, 4)
            below = some_source(chance, planes, depth)
            of = upon(below)[1]
            shape, floor = upon(below, summed("a", window))
            self.assertEqual(shape, (planes, depth))
            for x, y in [*about(window), (1000000, -1000000)]:
                wanted = (0,) * planes
                if (x, y) in inside(window):
                    cells = [cell for cell in inside(window) if cell[0] <= x and cell[1] <= y]
                    wanted = tuple([rest(sum([of(*cell)[p] for cell in cells]), depth + 1) for p in range(planes)])
                self.assertEqual(floor(x, y), wanted)

    def test_in_whichever_order_cells_are_asked(self):
        chance = random.Random(42)
        below = some_source(chance, 2, 255)
        window = (-3, -2, 7, 6)
        floor = upon(below, summed("a", window))[1]
        wanted = {cell: floor(*cell) for cell in inside(window)}
        for _ in range(5):
            other = upon(below, summed("a", window))[1]
            cells = inside(window)
            chance.shuffle(cells)
            self.assertEqual({cell: other(*cell) for cell in cells}, wanted)

    def test_what_is_asked_for_one_cell(self):
        asked = []

        def of(x, y):
            asked.append((x, y))
            return (1,)
        floor = summed_floor(summed("a", (5, 6, 9, 9)), (1, 255), Asked(of))
        self.assertEqual(floor(4, 6), (0,))
        self.assertEqual(asked, [])
        self.assertEqual(floor(7, 8), (9,))
        self.assertEqual(sorted(asked), sorted(inside((5, 6, 3, 3))))
        self.assertEqual(floor(6, 9), (8,))
        self.assertEqual(sorted(asked), sorted([*inside((5, 6, 3, 3)), (5, 9), (6, 9)]))


class Unsummed(unittest.TestCase):
    def test_by_hand(self):
        picture = source(Picture((((1, 2, 3), (4, 5, 9)),), depth=9), border=0)
        self.assertEqual(seen(self, (-1, -1, 6, 5), picture, unsummed("a"))[0],
                         ((0,) * 6, (0, 1, 1, 1, 7, 0), (0, 3, 0, 3, 4, 0), (0, 6, 9, 6, 9, 0), (0,) * 6))

    def test_by_the_words_of_the_promise(self):
        chance = random.Random(43)
        for depth, planes in itertools.product(DEPTHS, range(1, 5)):
            below = some_source(chance, planes, depth)
            of = upon(below)[1]
            shape, floor = upon(below, unsummed("a"))
            self.assertEqual(shape, (planes, depth))
            for x, y in [*inside((-8, -8, 20, 20)), (-1000000, 1000000)]:
                wanted = [rest(of(x, y)[p] - of(x - 1, y)[p] - of(x, y - 1)[p] + of(x - 1, y - 1)[p], depth + 1)
                          for p in range(planes)]
                self.assertEqual(floor(x, y), tuple(wanted))

    def test_summed_and_unsummed_it_is_as_it_was_within_the_window(self):
        chance = random.Random(44)
        for depth, window in itertools.product(DEPTHS, WINDOWS):
            below = some_source(chance, chance.randint(1, 4), depth)
            of = upon(below)[1]
            floor = upon(below, summed("a", window), unsummed("b"))[1]
            for cell in inside(window):
                self.assertEqual(floor(*cell), of(*cell))

    def test_unsummed_and_summed_it_is_as_it_was_where_0_stands_beyond(self):
        chance = random.Random(45)
        for depth in DEPTHS:
            picture = some_picture(chance, 3, depth)
            below = source(picture, border=0)
            of = upon(below)[1]
            floor = upon(below, unsummed("a"), summed("b", picture.window()))[1]
            for cell in inside(picture.window()):
                self.assertEqual(floor(*cell), of(*cell))


class Levelled(unittest.TestCase):
    def test_by_hand(self):
        picture = source(Picture((((5, 1, 3, 3),),), depth=9), border=4)
        self.assertEqual(seen(self, (-1, 0, 6, 1), picture, levelled("a", (0, 0, 4, 1)))[0][0], (6, 9, 2, 6, 6, 6))
        self.assertEqual(seen(self, (-1, 0, 6, 1), picture, levelled("a", (1, 0, 1, 1)))[0][0], (9, 9, 9, 9, 9, 9))
        self.assertEqual(seen(self, (-1, 0, 6, 1), picture, levelled("a", (0, 0, 1, 1)))[0][0], (0, 9, 0, 0, 0, 0))

    def test_at_the_bounds(self):
        for depth in DEPTHS:
            picture = source(Picture((((0, depth),),), depth=depth), border=0)
            told = seen(self, (0, 0, 3, 1), picture, levelled("a", (0, 0, 2, 1)))[0][0]
            self.assertEqual(told, (depth // 2, depth, depth // 2))

    def test_by_the_words_of_the_promise(self):
        chance = random.Random(46)
        for depth, window in itertools.product(DEPTHS, WINDOWS):
            planes = chance.randint(1, 4)
            below = some_source(chance, planes, depth)
            of = upon(below)[1]
            shape, floor = upon(below, levelled("a", window))
            self.assertEqual(shape, (planes, depth))
            cells = inside(window)
            for x, y in [*inside((-5, -5, 10, 10)), *about(window)[::5], (1000000, -1000000)]:
                wanted = []
                for p in range(planes):
                    many = len([cell for cell in cells if of(*cell)[p] <= of(x, y)[p]])
                    wanted.append(many * depth // len(cells))
                self.assertEqual(floor(x, y), tuple(wanted))

    def test_what_is_asked_for_one_cell(self):
        asked = []

        def of(x, y):
            asked.append((x, y))
            return (x,)
        floor = levelled_floor(levelled("a", (5, 6, 3, 2)), (1, 255), Asked(of))
        self.assertEqual(floor(6, 100), (170,))
        self.assertEqual(sorted(asked), sorted([*inside((5, 6, 3, 2)), (6, 100)]))


if __name__ == "__main__":
    unittest.main()
