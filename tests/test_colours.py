"""Promises 9 and 10: steps that are undone exactly, and rounded weights over planes."""

import itertools
import random
import unittest

from helper import Asked, rest, seen, some_planes, upon
from pixelstages.colours import mixed_floor
from pixelstages.pictures import Picture
from pixelstages.stages import lifted, mixed, source, unlifted


def cell(numbers, depth):
    """A picture of one cell with these numbers, plane by plane."""
    return source(Picture(tuple([((number,),) for number in numbers]), depth=depth))


def told(numbers, depth, *stages):
    return upon(cell(numbers, depth), *stages)[1](0, 0)


def by_steps(numbers, depth, steps, sign):
    """Promise 9 by its words."""
    numbers = list(numbers)
    for plane, weights, shift in steps if sign > 0 else reversed(steps):
        total = 0
        for weight, number in zip(weights, numbers):
            total += weight * number
        numbers[plane] = rest(numbers[plane] + sign * (total // 2 ** shift), depth + 1)
    return tuple(numbers)


def some_steps(chance, planes):
    steps = []
    for _ in range(chance.randint(1, 8)):
        plane = chance.randrange(planes)
        weights = [chance.choice((-64, -3, -1, 0, 1, 2, 64)) for _ in range(planes)]
        weights[plane] = 0
        steps.append((plane, tuple(weights), chance.choice((0, 1, 3, 8))))
    return tuple(steps)


class Steps(unittest.TestCase):
    def test_one_step(self):
        self.assertEqual(told((5, 7), 255, lifted("a", ((0, (0, 1), 0),))), (12, 7))
        self.assertEqual(told((5, 7), 255, lifted("a", ((1, (1, 0), 0),))), (5, 12))
        self.assertEqual(told((5, 7), 255, unlifted("a", ((1, (1, 0), 0),))), (5, 2))
        self.assertEqual(told((5, 7, 9), 255, lifted("a", ((2, (3, -1, 0), 0),))), (5, 7, 17))

    def test_the_rest_by_the_depth_and_one(self):
        self.assertEqual(told((250, 6), 255, lifted("a", ((0, (0, 1), 0),))), (0, 6))
        self.assertEqual(told((250, 5), 255, lifted("a", ((0, (0, 1), 0),))), (255, 5))
        self.assertEqual(told((3, 5), 9, lifted("a", ((0, (0, -1), 0),))), (8, 5))
        self.assertEqual(told((3, 5), 9, unlifted("a", ((0, (0, 64), 0),))), (3, 5))
        self.assertEqual(told((0, 1), 1, lifted("a", ((0, (0, 1), 0),))), (1, 1))

    def test_sums_below_0_go_towards_less(self):
        self.assertEqual(told((9, 1), 255, lifted("a", ((0, (0, -1), 1),))), (8, 1))
        self.assertEqual(told((9, 2), 255, lifted("a", ((0, (0, -1), 1),))), (8, 2))
        self.assertEqual(told((9, 3), 255, lifted("a", ((0, (0, -1), 1),))), (7, 3))
        self.assertEqual(told((9, 1), 255, unlifted("a", ((0, (0, -1), 1),))), (10, 1))
        self.assertEqual(told((9, 1), 255, lifted("a", ((0, (0, -1), 8),))), (8, 1))
        self.assertEqual(told((9, 1), 255, lifted("a", ((0, (0, 1), 1),))), (9, 1))
        self.assertEqual(told((9, 3), 255, lifted("a", ((0, (0, 1), 1),))), (10, 3))

    def test_shift_8(self):
        self.assertEqual(told((0, 255), 255, lifted("a", ((0, (0, 1), 8),))), (0, 255))
        self.assertEqual(told((0, 4), 255, lifted("a", ((0, (0, 64), 8),))), (1, 4))
        self.assertEqual(told((0, 65535), 65535, lifted("a", ((0, (0, 64), 8),))), (16383, 65535))

    def test_a_later_step_reads_what_an_earlier_one_made(self):
        steps = ((0, (0, 1), 0), (1, (1, 0), 0), (0, (0, 2), 1))
        self.assertEqual(told((1, 2), 255, lifted("a", steps)), (8, 5))
        self.assertEqual(told((8, 5), 255, unlifted("a", steps)), (1, 2))
        self.assertEqual(told((1, 2), 255, unlifted("a", steps)), (252, 3))

    def test_one_plane(self):
        self.assertEqual(told((7,), 255, lifted("a", ((0, (0,), 0),))), (7,))
        self.assertEqual(told((7,), 255, unlifted("a", ((0, (0,), 5),))), (7,))

    def test_by_the_words_of_the_promise(self):
        chance = random.Random(5)
        for _ in range(400):
            planes, depth = chance.randint(1, 4), chance.choice((1, 2, 9, 255, 65535))
            numbers = tuple([chance.randint(0, depth) for _ in range(planes)])
            steps = some_steps(chance, planes)
            self.assertEqual(told(numbers, depth, lifted("a", steps)), by_steps(numbers, depth, steps, 1))
            self.assertEqual(told(numbers, depth, unlifted("a", steps)), by_steps(numbers, depth, steps, -1))

    def test_each_gives_back_what_the_other_took(self):
        chance = random.Random(6)
        for planes, depth in ((1, 3), (2, 4), (3, 2), (4, 1)):
            steps = some_steps(chance, planes)
            lift, unlift = lifted("a", steps), unlifted("a", steps)
            made = []
            for numbers in itertools.product(range(depth + 1), repeat=planes):
                self.assertEqual(told(numbers, depth, lift, unlift), numbers)
                self.assertEqual(told(numbers, depth, unlift, lift), numbers)
                made.append(told(numbers, depth, lift))
            self.assertEqual(len(set(made)), len(made))

    def test_whole_pictures_there_and_back(self):
        chance = random.Random(8)
        for depth in (1, 255, 65535):
            picture = source(Picture(some_planes(chance, 3, 6, 5, depth), left=-3, up=2, depth=depth))
            steps = some_steps(chance, 3)
            window = (-5, 0, 10, 9)
            for one, other in ((lifted("a", steps), unlifted("b", steps)), (unlifted("a", steps), lifted("b", steps))):
                self.assertEqual(upon(picture, one)[0], (3, depth))
                self.assertEqual(seen(self, window, picture, one, other), seen(self, window, picture))


class Mixed(unittest.TestCase):
    def test_just_a_half_goes_up(self):
        rounded = [told((number,), 200, mixed("a", ((1,),), by=2))[0] for number in range(6)]
        self.assertEqual(rounded, [0, 1, 1, 2, 2, 3])
        rounded = [told((number,), 200, mixed("a", ((-1,),), by=2, plus=100))[0] for number in range(6)]
        self.assertEqual(rounded, [100, 100, 99, 99, 98, 98])

    def test_odd_divisors(self):
        rounded = [told((number,), 200, mixed("a", ((1,),), by=3))[0] for number in range(7)]
        self.assertEqual(rounded, [0, 0, 1, 1, 1, 2, 2])
        rounded = [told((number,), 200, mixed("a", ((-1,),), by=3, plus=50))[0] for number in range(7)]
        self.assertEqual(rounded, [50, 50, 49, 49, 49, 48, 48])

    def test_by_1_and_100000(self):
        self.assertEqual(told((7, 9), 255, mixed("a", ((2, -1),))), (5,))
        self.assertEqual(told((7, 9), 255, mixed("a", ((2, -1),), by=1, plus=0)), (5,))
        deep = mixed("a", ((1000, 1000, 1000, 1000),), by=100000)
        self.assertEqual(told((65535,) * 4, 65535, deep), (2621,))
        self.assertEqual([told((number,), 255, mixed("a", ((1000,),), by=100000))[0] for number in (49, 50, 149, 150)],
                         [0, 1, 1, 2])
        self.assertEqual([told((number,), 255, mixed("a", ((-1000,),), by=100000, plus=9))[0]
                          for number in (50, 51, 150, 151)], [9, 8, 8, 7])

    def test_held_to_0_and_the_depth(self):
        self.assertEqual(told((5,), 9, mixed("a", ((1,),), plus=4)), (9,))
        self.assertEqual(told((5,), 9, mixed("a", ((1,),), plus=5)), (9,))
        self.assertEqual(told((5,), 9, mixed("a", ((1,),), plus=65535)), (9,))
        self.assertEqual(told((5,), 9, mixed("a", ((1,),), plus=-5)), (0,))
        self.assertEqual(told((5,), 9, mixed("a", ((1,),), plus=-6)), (0,))
        self.assertEqual(told((5,), 9, mixed("a", ((1,),), plus=-65535)), (0,))
        self.assertEqual(told((9,), 9, mixed("a", ((1000,), (-1000,)))), (9, 0))

    def test_plus_goes_behind_the_division(self):
        self.assertEqual(told((5,), 255, mixed("a", ((3,),), by=4, plus=10)), (14,))
        self.assertEqual(told((9,), 9, mixed("a", ((2,),), plus=-12)), (6,))

    def test_as_many_planes_as_rows(self):
        picture = cell((1, 2, 3), 20)
        for rows, numbers in ((((1, 1, 1),), (6,)), (((1, 0, 0), (0, 0, 2)), (1, 6)),
                              (((0, 0, 1), (0, 1, 0), (1, 0, 0), (1, 2, 3)), (3, 2, 1, 14))):
            shape, floor = upon(picture, mixed("a", rows))
            self.assertEqual(shape, (len(rows), 20))
            self.assertEqual(floor(0, 0), numbers)

    def test_weights_of_0_alone(self):
        self.assertEqual(told((5, 6), 9, mixed("a", ((0, 0), (0, 0), (0, 0)), by=7, plus=4)), (4, 4, 4))
        self.assertEqual(told((5, 6), 9, mixed("a", ((0, 0), (0, 1)))), (0, 6))

    def test_a_cell_with_weights_of_0_alone_is_not_asked(self):
        asked = []

        def of(x, y):
            asked.append((x, y))
            return (5, 6)
        self.assertEqual(mixed_floor(mixed("a", ((0, 0), (0, 0)), plus=4), (2, 9), Asked(of))(1, 2), (4, 4))
        self.assertEqual(asked, [])
        self.assertEqual(mixed_floor(mixed("a", ((0, 0), (0, 1)), plus=2), (2, 9), Asked(of))(1, 2), (2, 8))
        self.assertEqual(asked, [(1, 2)])

    def test_by_the_words_of_the_promise(self):
        chance = random.Random(9)
        for _ in range(300):
            planes, depth = chance.randint(1, 4), chance.choice((1, 9, 255, 65535))
            numbers = tuple([chance.randint(0, depth) for _ in range(planes)])
            rows = tuple([tuple([chance.choice((-1000, -2, 0, 1, 3, 1000)) for _ in range(planes)])
                          for _ in range(chance.randint(1, 4))])
            by, plus = chance.choice((1, 2, 5, 8, 2000, 100000)), chance.choice((-65535, -3, 0, 2, 65535))
            wanted = []
            for row in rows:
                s = sum([weight * number for weight, number in zip(row, numbers)])
                number = (2 * s + by) // (2 * by) + plus
                wanted.append(0 if number < 0 else depth if number > depth else number)
            self.assertEqual(told(numbers, depth, mixed("a", rows, by=by, plus=plus)), tuple(wanted))

    def test_every_cell_by_its_own_numbers(self):
        picture = source(Picture((((1, 2), (3, 4)), ((5, 6), (7, 8)))), border=0)
        self.assertEqual(seen(self, (0, 0, 3, 2), picture, mixed("a", ((1, 1), (-1, 1)))),
                         (((6, 8, 0), (10, 12, 0)), ((4, 4, 0), (4, 4, 0))))


if __name__ == "__main__":
    unittest.main()
