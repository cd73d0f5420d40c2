"""Promises 11 and 12: weights over the cells about a cell, and ranks among them."""

import itertools
import random
import unittest

from helper import Asked, seen, some_planes, upon
from pixelstages.filters import filtered_floor
from pixelstages.pictures import Picture
from pixelstages.stages import MIRRORED, filtered, ranked, source

ALL_PLACES = tuple([(dx, dy) for dy in range(-2, 3) for dx in range(-2, 3)])


def dot():
    """One 1 at (0, 0), and 0 everywhere else."""
    return source(Picture((((1,),),)), border=0)


def row(*numbers, left=0, depth=255):
    return source(Picture(((numbers,),), left=left, depth=depth), border=0)


class Filtered(unittest.TestCase):
    def test_the_middle(self):
        """Of a dot the weights come out turned about the place that is told to be the middle."""
        for rows, columns in itertools.product(range(1, 6), repeat=2):
            weights = tuple([tuple([1 + j * columns + i for i in range(columns)]) for j in range(rows)])
            shape, floor = upon(dot(), filtered("a", weights))
            self.assertEqual(shape, (1, 255))
            for y in range(-6, 7):
                for x in range(-6, 7):
                    i, j = columns // 2 - x, rows // 2 - y
                    is_told = 0 <= i < columns and 0 <= j < rows
                    self.assertEqual(floor(x, y), (weights[j][i] if is_told else 0,), (rows, columns, x, y))

    def test_even_and_odd_counts_by_hand(self):
        numbers = row(1, 10, 100)
        self.assertEqual(seen(self, (-1, 0, 5, 1), numbers, filtered("a", ((1, 2),)))[0][0], (0, 2, 21, 210, 100))
        self.assertEqual(seen(self, (-1, 0, 5, 1), numbers, filtered("a", ((1, 0, 2),)))[0][0], (2, 20, 201, 10, 100))
        column = source(Picture((((1,), (10,), (100,)),)), border=0)
        self.assertEqual(seen(self, (0, -1, 1, 5), column, filtered("a", ((1,), (2,))))[0],
                         ((0,), (2,), (21,), (210,), (100,)))

    def test_just_a_half_goes_up(self):
        half = filtered("a", ((1,),), by=2)
        self.assertEqual(seen(self, (0, 0, 6, 1), row(0, 1, 2, 3, 4, 5), half)[0][0], (0, 1, 1, 2, 2, 3))
        less = filtered("a", ((-1,),), by=2, plus=9)
        self.assertEqual(seen(self, (0, 0, 6, 1), row(0, 1, 2, 3, 4, 5), less)[0][0], (9, 9, 8, 8, 7, 7))

    def test_by_and_plus_at_their_bounds(self):
        numbers = row(0, 49, 50, 150, 255)
        told = filtered("a", ((1000,),), by=100000)
        self.assertEqual(seen(self, (0, 0, 5, 1), numbers, told)[0][0], (0, 0, 1, 2, 3))
        self.assertEqual(seen(self, (0, 0, 5, 1), numbers, filtered("a", ((1,),), plus=65535))[0][0], (255,) * 5)
        self.assertEqual(seen(self, (0, 0, 5, 1), numbers, filtered("a", ((1,),), plus=-65535))[0][0], (0,) * 5)
        self.assertEqual(seen(self, (0, 0, 5, 1), numbers, filtered("a", ((1,),), by=1, plus=-50))[0][0],
                         (0, 0, 0, 100, 205))

    def test_held_to_0_and_the_depth(self):
        numbers = row(0, 5, 9, depth=9)
        self.assertEqual(seen(self, (0, 0, 3, 1), numbers, filtered("a", ((2,),)))[0][0], (0, 9, 9))
        self.assertEqual(seen(self, (0, 0, 3, 1), numbers, filtered("a", ((-2,),), plus=9))[0][0], (9, 0, 0))

    def test_weights_of_0(self):
        nought = filtered("a", ((0, 0), (0, 0)), by=3, plus=7)
        self.assertEqual(seen(self, (-2, -2, 4, 4), row(5, 6), nought)[0], ((7,) * 4,) * 4)
        self.assertEqual(seen(self, (-1, 0, 4, 1), row(5, 6), filtered("a", ((0, 0, 1),)))[0][0], (5, 6, 0, 0))

    def test_a_cell_with_a_weight_of_0_is_not_asked(self):
        asked = []

        def of(x, y):
            asked.append((x, y))
            return (1, 2)
        floor = filtered_floor(filtered("a", ((0, 3, 0), (0, 0, 1))), (2, 255), Asked(of))
        self.assertEqual(floor(10, 20), (4, 8))
        self.assertEqual(sorted(asked), [(10, 19), (11, 20)])

    def test_by_the_words_of_the_promise(self):
        chance = random.Random(12)
        for _ in range(40):
            planes, depth = chance.randint(1, 4), chance.choice((1, 9, 255, 65535))
            picture = Picture(some_planes(chance, planes, 4, 3, depth), left=-2, up=1, depth=depth)
            rows, columns = chance.randint(1, 5), chance.randint(1, 5)
            weights = tuple([tuple([chance.choice((-1000, -3, -1, 0, 0, 1, 2, 1000)) for _ in range(columns)])
                             for _ in range(rows)])
            by, plus = chance.choice((1, 2, 3, 8, 5000, 100000)), chance.choice((-65535, -2, 0, 5, 65535))
            below = source(picture, border=MIRRORED)
            of = upon(below)[1]
            shape, floor = upon(below, filtered("a", weights, by=by, plus=plus))
            self.assertEqual(shape, (planes, depth))
            for x, y in itertools.product(range(-5, 5), repeat=2):
                wanted = []
                for p in range(planes):
                    s = sum([weights[j][i] * of(x + i - columns // 2, y + j - rows // 2)[p]
                             for j in range(rows) for i in range(columns)])
                    wanted.append(min(depth, max(0, (2 * s + by) // (2 * by) + plus)))
                self.assertEqual(floor(x, y), tuple(wanted))


class Ranked(unittest.TestCase):
    def test_each_rank_with_alike_numbers(self):
        numbers = row(4, 2, 4, 1, 2)
        form = ((-2, 0), (-1, 0), (0, 0), (1, 0), (2, 0))
        told = [upon(numbers, ranked("a", form, rank=rank))[1](2, 0) for rank in range(5)]
        self.assertEqual(told, [(1,), (2,), (2,), (4,), (4,)])
        self.assertEqual(upon(numbers, ranked("a", form))[1](2, 0), (1,))

    def test_one_place(self):
        numbers = row(4, 2, 7)
        self.assertEqual(seen(self, (0, 0, 3, 1), numbers, ranked("a", ((0, 0),)))[0][0], (4, 2, 7))
        self.assertEqual(seen(self, (0, 0, 4, 1), numbers, ranked("a", ((-1, 0),)))[0][0], (0, 4, 2, 7))
        self.assertEqual(seen(self, (-4, -4, 3, 1), numbers, ranked("a", ((4, 4),)))[0][0], (4, 2, 7))
        self.assertEqual(seen(self, (4, 4, 3, 1), numbers, ranked("a", ((-4, -4),)))[0][0], (4, 2, 7))
        self.assertEqual(seen(self, (0, 3, 3, 1), numbers, ranked("a", ((0, -3),)))[0][0], (4, 2, 7))

    def test_twenty_five_places(self):
        numbers = tuple([tuple([(7 * (5 * y + x)) % 25 for x in range(5)]) for y in range(5)])
        picture = source(Picture((numbers,)), border=99)
        for rank in range(25):
            self.assertEqual(upon(picture, ranked("a", ALL_PLACES, rank=rank))[1](2, 2), (rank,))

    def test_the_order_of_the_places_makes_no_odds(self):
        chance = random.Random(14)
        picture = source(Picture(some_planes(chance, 2, 6, 6, 9), left=-3, up=-3, depth=9), border=MIRRORED)
        form = ((-1, 2), (0, 0), (3, -4), (1, 1))
        for rank in range(4):
            told = seen(self, (-5, -5, 10, 10), picture, ranked("a", form, rank=rank))
            for other in itertools.permutations(form):
                self.assertEqual(seen(self, (-5, -5, 10, 10), picture, ranked("a", other, rank=rank)), told)

    def test_planes_are_ranked_each_by_itself(self):
        picture = source(Picture((((1, 9),), ((8, 2),))), border=0)
        shape, floor = upon(picture, ranked("a", ((0, 0), (1, 0)), rank=1))
        self.assertEqual((shape, floor(0, 0), floor(1, 0), floor(-1, 0)), ((2, 255), (9, 8), (9, 2), (1, 8)))

    def test_by_the_words_of_the_promise(self):
        chance = random.Random(15)
        places = [(dx, dy) for dx in range(-4, 5) for dy in range(-4, 5)]
        for _ in range(60):
            planes, depth = chance.randint(1, 4), chance.choice((1, 3, 255, 65535))
            below = source(Picture(some_planes(chance, planes, 4, 5, depth), left=1, up=-2, depth=depth), border=depth)
            form = tuple(chance.sample(places, chance.randint(1, 25)))
            rank = chance.randrange(len(form))
            of = upon(below)[1]
            shape, floor = upon(below, ranked("a", form, rank=rank))
            self.assertEqual(shape, (planes, depth))
            for x, y in itertools.product(range(-3, 8), range(-5, 6)):
                wanted = [sorted([of(x + dx, y + dy)[p] for dx, dy in form])[rank] for p in range(planes)]
                self.assertEqual(floor(x, y), tuple(wanted))


if __name__ == "__main__":
    unittest.main()
