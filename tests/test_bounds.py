"""Promises 22 and 23: what rounding comes to at most, and how far a change of the numbers can go."""

import fractions
import itertools
import random
import unittest

from helper import OTHER_KINDS, keeps, parts_spoilt, refuses, spoilt
from pixelstages.bounds import spread, worst
from pixelstages.errors import NoDivisor, NoStage, NoTone, TooWide

WEIGHTS = (-9, -4, -1, 0, 1, 2, 3, 7, 20)
BYS = (1, 2, 3, 4, 7, 10, 64, 100000)
PLUSES = (0, 0, 1, -1, 2, -5, 30, 65535, -65535)


def told_of(weights, numbers, by, plus, depth):
    s = sum([weight * number for weight, number in zip(weights, numbers)])
    told = (2 * s + by) // (2 * by) + plus
    return 0 if told < 0 else depth if told > depth else told


def distance(weights, numbers, by, plus, depth):
    s = sum([weight * number for weight, number in zip(weights, numbers)])
    exact = min(max(fractions.Fraction(s, by) + plus, 0), depth)
    return abs(told_of(weights, numbers, by, plus, depth) - exact)


def all_numbers(many, depth):
    return itertools.product(range(depth + 1), repeat=many)


def some_weighing(chance, most_numbers):
    """Weights and what belongs to them, so that at most so many tuples of numbers are to be tried."""
    depth = chance.choice((1, 1, 2, 3, 5, 9))
    many = chance.randint(1, 5)
    while (depth + 1) ** many > most_numbers:
        many -= 1
    return tuple([chance.choice(WEIGHTS) for _ in range(many)]), chance.choice(BYS), chance.choice(PLUSES), depth


class Worst(unittest.TestCase):
    def reaches(self, weights, by, plus, depth):
        """Fails but where the numbers that are told reach the error that is told; tells it."""
        told = keeps(self, lambda weights: worst(weights, by=by, plus=plus, depth=depth), weights)
        self.assertIs(type(told), tuple)
        (top, bottom), numbers = told
        self.assertEqual({type(told[0]), type(numbers)}, {tuple})
        error = fractions.Fraction(top, bottom)
        self.assertEqual((top, bottom), (error.numerator, error.denominator))
        self.assertEqual(len(numbers), len(weights))
        for number in numbers:
            self.assertIs(type(number), int)
            self.assertTrue(0 <= number <= depth)
        self.assertEqual(distance(weights, numbers, by, plus, depth), error)
        return error

    def test_some_by_hand(self):
        self.assertEqual(worst((1,), depth=9)[0], (0, 1))
        self.assertEqual(worst((1, 2, 1), by=4, depth=9)[0], (1, 2))
        self.assertEqual(worst((1, 1, 1), by=3, depth=9)[0], (1, 3))
        self.assertEqual(worst((2,), by=4, depth=1), ((1, 2), (1,)))
        self.assertEqual(worst((3,), by=10, depth=1), ((3, 10), (1,)))
        self.assertEqual(worst((6,), by=10, depth=1), ((2, 5), (1,)))
        self.assertEqual(worst((-1,), by=2, plus=1, depth=1), ((1, 2), (1,)))

    def test_held_there_is_no_error(self):
        self.assertEqual(worst((1,), by=2, plus=9, depth=9)[0], (0, 1))
        self.assertEqual(worst((-1, -3), by=2, depth=9)[0], (0, 1))
        self.assertEqual(worst((0, 0), by=3, depth=65535), ((0, 1), (0, 0)))

    def test_against_a_plain_search(self):
        chance = random.Random(101)
        for _ in range(400):
            weights, by, plus, depth = some_weighing(chance, 800)
            error = self.reaches(weights, by, plus, depth)
            wanted = max([distance(weights, numbers, by, plus, depth) for numbers in all_numbers(len(weights), depth)])
            self.assertEqual(error, wanted, (weights, by, plus, depth))

    def test_great_ones_are_no_worse_than_drawn_numbers(self):
        chance = random.Random(102)
        for weights, depth in (((1,) * 25, 120), ((60, -60, 0) * 8, 3), ((-1000, 1000, 1000), 1), ((3000 // 255,), 255)):
            for by in (1, 3, 25, 1000, 99999):
                error = self.reaches(weights, by, 1, depth)
                for _ in range(200):
                    numbers = [chance.randint(0, depth) for _ in weights]
                    self.assertLessEqual(distance(weights, numbers, by, 1, depth), error)

    def test_what_is_left_out(self):
        self.assertEqual(worst((3, 1)), worst((3, 1), by=1, plus=0, depth=255))
        self.assertEqual(worst((3, 1), by=2), worst((3, 1), depth=255, plus=0, by=2))

    def test_just_3000_and_above(self):
        for weights, depth in (((1,) * 25, 120), ((1000, -1000, 1000), 1), ((-3, 0), 1000), ((0,), 65535)):
            self.reaches(weights, 7, 0, depth)
        for weights, depth in (((1,) * 25, 121), ((1000, -1000, 1000, -1), 1), ((-3, 0), 1001), ((1,), 3001)):
            refuses(self, TooWide, lambda weights: worst(weights, by=7, depth=depth), weights)


class Spread(unittest.TestCase):
    def reaches(self, weights, far, by, plus, depth):
        """Fails but where the two tuples that are told reach the step that is told; tells it."""
        told = keeps(self, lambda *things: spread(*things, by=by, plus=plus, depth=depth), weights, far)
        self.assertIs(type(told), tuple)
        step, numbers, others = told
        self.assertEqual((type(step), type(numbers), type(others)), (int, tuple, tuple))
        self.assertEqual((len(numbers), len(others)), (len(weights), len(weights)))
        for number, other in zip(numbers, others):
            self.assertEqual((type(number), type(other)), (int, int))
            self.assertTrue(0 <= number <= depth and 0 <= other <= depth and abs(number - other) <= far)
        one, two = [told_of(weights, tones, by, plus, depth) for tones in (numbers, others)]
        self.assertEqual(abs(one - two), step)
        return step

    def test_some_by_hand(self):
        self.assertEqual(spread((1, 1), 2, depth=9)[0], 4)
        self.assertEqual(spread((1, -1), 2, depth=9)[0], 4)
        self.assertEqual(spread((1, 2, 1), 1, by=4, depth=9)[0], 1)
        self.assertEqual(spread((3,), 1, by=2, depth=9)[0], 2)
        self.assertEqual(spread((1,), 9, plus=-5, depth=9)[0], 4)
        self.assertEqual(spread((-1,), 9, depth=9)[0], 0)
        self.assertEqual(spread((5, 1), 0, depth=9)[0], 0)
        self.assertEqual(spread((0, 0), 65535, depth=65535)[0], 0)

    def test_against_a_plain_search(self):
        chance = random.Random(103)
        for _ in range(250):
            weights, by, plus, depth = some_weighing(chance, 130)
            if depth * sum([abs(weight) for weight in weights]) > 300:
                continue
            far = chance.randint(0, depth)
            step = self.reaches(weights, far, by, plus, depth)
            told = {numbers: told_of(weights, numbers, by, plus, depth) for numbers in all_numbers(len(weights), depth)}
            wanted = max([abs(told[one] - told[two]) for one in told for two in told
                          if all([abs(a - b) <= far for a, b in zip(one, two)])])
            self.assertEqual(step, wanted, (weights, far, by, plus, depth))

    def test_great_ones_are_no_less_than_drawn_numbers(self):
        chance = random.Random(104)
        for weights, depth in (((1,) * 25, 12), ((6, -6, 0) * 8, 3), ((-100, 100, 100), 1), ((1,), 255), ((-1,), 300)):
            for by, far in itertools.product((1, 3, 25), (0, 1, depth)):
                step = self.reaches(weights, far, by, 1, depth)
                for _ in range(100):
                    numbers = [chance.randint(0, depth) for _ in weights]
                    others = [min(max(number + chance.randint(-far, far), 0), depth) for number in numbers]
                    one, two = [told_of(weights, tones, by, 1, depth) for tones in (numbers, others)]
                    self.assertLessEqual(abs(one - two), step)

    def test_what_is_left_out(self):
        self.assertEqual(spread((1, 0), 3), spread((1, 0), 3, by=1, plus=0, depth=255))

    def test_just_300_and_above(self):
        for weights, depth in (((1,) * 25, 12), ((100, -100, 100), 1), ((-3, 0), 100), ((0,), 65535), ((1,), 300)):
            self.reaches(weights, 1, 7, 0, depth)
        for weights, depth in (((1,) * 25, 13), ((100, -100, 100, -1), 1), ((-3, 0), 101), ((1,), 301)):
            refuses(self, TooWide, lambda weights: spread(weights, 1, by=7, depth=depth), weights)


class Refused(unittest.TestCase):
    def refused(self, error, weights, far=0, **named):
        refuses(self, error, lambda weights: worst(weights, **named), weights)
        caught = refuses(self, error, lambda *things: spread(*things, **named), weights, far)
        if error is NoTone:
            self.assertIsNone(caught.cell)

    def test_no_weighing(self):
        for weights in (*[thing for thing in OTHER_KINDS if thing != (1,)], 5, (1,) * 26, (1001,), (-1001,), (1, True),
                        (False,), (1, "1"), ((1,),), [1, 2]):
            self.refused(NoStage, weights)
        for by in (-1, 100001, *OTHER_KINDS):
            self.refused(NoStage, (1,), by=by)
        for plus in (-65536, 65536, *OTHER_KINDS):
            self.refused(NoStage, (1,), plus=plus)
        for weights in parts_spoilt((1, 2, 3), OTHER_KINDS):
            self.refused(NoStage, weights)

    def test_just_weighings(self):
        for weights in ((1,) * 25, (-1,), (0,) * 25):
            self.assertIsNotNone(worst(weights, by=100000, plus=-65535, depth=1))
            self.assertIsNotNone(spread(weights, 1, by=1, plus=65535, depth=1))
        self.assertIsNotNone(worst((1000, -1000), depth=1))

    def test_no_divisor(self):
        self.refused(NoDivisor, (1,), by=0)

    def test_no_depth(self):
        for depth in (0, -1, 65536, *OTHER_KINDS):
            self.refused(NoTone, (0,), depth=depth)

    def test_far(self):
        for far in (-1, 10, 65535, *OTHER_KINDS):
            self.assertIsNone(refuses(self, NoTone, lambda far: spread((1,), far, depth=9), far).cell)
        for far in (0, 9):
            self.assertEqual(spread((1,), far, depth=9)[0], far)

    def test_in_the_order_told(self):
        """Each two that are due at once: the one told first goes first."""
        due = (("weights", (1001,), NoStage), ("by", 0, NoDivisor), ("depth", 0, NoTone), ("far", -1, NoTone),
               ("weights", (1000,) * 4, TooWide))
        for (word, thing, error), (other_word, other, _) in itertools.combinations(due, 2):
            if word == other_word:
                continue
            things = {"weights": (1,), "far": 0, "by": 1, "depth": 1, other_word: other, word: thing}
            weights, far = things.pop("weights"), things.pop("far")
            refuses(self, error, lambda: spread(weights, far, **things))
            if "far" not in (word, other_word):
                refuses(self, error, lambda: worst(weights, **things))
        self.refused(NoStage, (1,), by=0, plus=65536)
        self.refused(NoStage, spoilt((1, 2), 1, None), by=0)

    def test_only_weights_and_far_have_a_place(self):
        with self.assertRaises(TypeError):
            worst((1,), 1)
        with self.assertRaises(TypeError):
            spread((1,), 0, 1)


if __name__ == "__main__":
    unittest.main()
