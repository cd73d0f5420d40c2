"""Promise 36, and 4 as far as it speaks of it: what undoes a stage, or two numbers that it brings to one."""

import itertools
import random
import unittest

from helper import BORDERS, ONE_NAME_KINDS, OTHER_KINDS, keeps, net_of, refuses, some_picture, some_stage, some_steps
from pixelstages.errors import NoDivisor, NoPaper, NoStage, NoTone
from pixelstages.pictures import Picture
from pixelstages.stages import (
    chosen, curved, filtered, flipped, lifted, met, mixed, moved, paired, source, turned, unlifted)
from pixelstages.undoing import undone

UNDONE = ("moved", "flipped", "turned", "curved", "lifted", "unlifted")
WINDOWS = ((-7, -7, 14, 14), (400, -500, 3, 3))


class Undone(unittest.TestCase):
    def told(self, stage, depth):
        told = keeps(self, lambda stage: undone(stage, depth=depth), stage)
        self.assertIs(type(told), tuple)
        return told

    def gives_back(self, stage, depth, planes=1):
        """Fails but where a stage is told that gives back drawn pictures, with every border, and each number."""
        word, other = self.told(stage, depth)
        self.assertEqual((word, other[1]), ("by", "in"))
        chance = random.Random(repr(stage)[:200])
        pictures = [some_picture(chance, planes, depth) for _ in range(4)]
        if depth < 300:
            numbers = [tuple(range(at, min(at + 48, depth + 1))) for at in range(0, depth + 1, 48)]
            pictures += [Picture(((line,),) * planes, depth=depth) for line in numbers]
        for picture, border in zip(pictures, itertools.cycle((*BORDERS, 0, depth))):
            net = net_of(pic=source(picture, border=border), stage=(stage[0], "pic", *stage[2:]))
            net.put("back", (other[0], "stage", *other[2:]))
            for window in (*WINDOWS, picture.window()):
                self.assertEqual(net.whole("back", window), net.whole("pic", window), (stage, other))

    def test_moves(self):
        for right, down in ((0, 0), (3, -2), (500, -500), (-500, 500), (0, 1)):
            self.gives_back(moved("x", right=right, down=down), 9)
        for across in (True, False):
            self.gives_back(flipped("x", across=across), 9)
        self.gives_back(turned("x"), 9, planes=3)

    def test_steps(self):
        chance = random.Random(401)
        for planes, depth, maker in itertools.product(range(1, 5), (1, 2, 255, 65535), (lifted, unlifted)):
            self.gives_back(maker("x", some_steps(chance, planes)), depth, planes)

    def test_tables_of_each_number_once(self):
        for table in itertools.permutations(range(4)):
            self.gives_back(curved("x", table), 3)
            self.gives_back(curved("x", table, depth=3), 3)
        chance = random.Random(402)
        for depth in (1, 2, 9, 255):
            for end in (depth, depth + 1, depth + 30, 65535):
                table = tuple(chance.sample(range(end + 1), depth + 1))
                self.gives_back(curved("x", table, depth=end), depth)

    def test_the_longest_table(self):
        self.gives_back(curved("x", tuple(range(65535, -1, -1))), 65535)
        self.gives_back(curved("x", (65535, 0), depth=65535), 1)

    def test_alike_numbers_against_a_plain_search(self):
        for depth in (1, 2, 3, 4):
            for table in itertools.product(range(3), repeat=depth + 1):
                pairs = [(one, other) for one in range(depth + 1) for other in range(one + 1, depth + 1)
                         if table[one] == table[other]]
                told = self.told(curved("x", table, depth=5), depth)
                if pairs:
                    self.assertEqual(told, ("alike", *min(pairs)))
                else:
                    self.assertEqual(told[0], "by")

    def test_alike_ones_of_some_tables(self):
        self.assertEqual(undone(curved("x", (1, 2, 2, 1)), depth=3), ("alike", 0, 3))
        self.assertEqual(undone(curved("x", (1, 2, 2, 1, 1)), depth=4), ("alike", 0, 3))
        self.assertEqual(undone(curved("x", (0, 1, 2, 2, 1)), depth=4), ("alike", 1, 4))
        self.assertEqual(undone(curved("x", (0, 0, 1), depth=1), depth=2), ("alike", 0, 1))
        self.assertEqual(undone(curved("x", (0,) * 65536), depth=65535), ("alike", 0, 1))
        self.assertEqual(undone(curved("x", (5,) + tuple(range(65534, -1, -1))), depth=65535), ("alike", 0, 65530))

    def test_what_is_left_out(self):
        self.assertEqual(undone(curved("x", tuple(range(256))))[0], "by")
        refuses(self, NoPaper, undone, curved("x", tuple(range(255))))
        with self.assertRaises(TypeError):
            undone(turned("x"), 255)

    def test_whatever_it_is_made_of(self):
        for name in ("in", "a", "abcdefgh"):
            self.assertEqual(undone(turned(name)), ("by", turned("in")))


class Refused(unittest.TestCase):
    def refused(self, error, stage, depth=9):
        return refuses(self, error, lambda stage: undone(stage, depth=depth), stage)

    def test_no_stage(self):
        for thing in (*OTHER_KINDS, 5, turned("A"), moved("x", right=501), ["turned", "x"], ("turned",), curved("x", (0,)),
                      curved("x", (0, 2), depth=1)):
            self.refused(NoStage, thing)

    def test_no_divisor(self):
        for stage in (filtered("x", ((1,),), by=0), mixed("x", ((1,),), by=0)):
            self.refused(NoDivisor, stage)

    def test_no_depth(self):
        for depth in (0, -1, 65536, *OTHER_KINDS):
            self.assertIsNone(self.refused(NoTone, turned("x"), depth).cell)

    def test_other_kinds(self):
        chance = random.Random(403)
        for kind in ONE_NAME_KINDS:
            if kind not in UNDONE:
                self.refused(NoPaper, some_stage(chance, kind, (1, 9), "x"))
        for stage in (source(Picture((((0,),),))), met("a", "b"), paired("a", "b"), chosen("a", "b", "c")):
            self.refused(NoPaper, stage)

    def test_tables_that_do_not_fit(self):
        for stage in (curved("x", (0, 1)), curved("x", tuple(range(9))), curved("x", tuple(range(11))),
                      curved("x", tuple(range(1, 11))), curved("x", (0,) * 9, depth=9), curved("x", (0, 0))):
            self.refused(NoPaper, stage)
        self.assertEqual(undone(curved("x", tuple(range(1, 11)), depth=10), depth=9)[0], "by")

    def test_in_the_order_told(self):
        nought = filtered("x", ((1,),), by=0)
        self.refused(NoStage, filtered("x", ((1001,),), by=0))
        self.refused(NoStage, None, 0)
        self.refused(NoStage, ("met", "a", "B", "gap"))
        self.refused(NoDivisor, nought, 0)
        self.refused(NoDivisor, nought)
        self.refused(NoTone, met("a", "b"), 0)
        self.refused(NoTone, curved("x", (0, 1)), 0)


if __name__ == "__main__":
    unittest.main()
