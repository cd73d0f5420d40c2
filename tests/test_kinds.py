"""Promise 2: what a whole number, a cell, a window and a name are."""

import unittest

from helper import OTHER_KINDS, keeps
from pixelstages.kinds import is_between, is_cell, is_depth, is_name, is_tuple, is_whole, is_window


class Kinds(unittest.TestCase):
    def holds(self, test, *things):
        for thing in things:
            self.assertIs(keeps(self, test, thing), True, repr(thing))

    def fails(self, test, *things):
        for thing in things:
            self.assertIs(keeps(self, test, thing), False, repr(thing))

    def test_whole(self):
        self.holds(is_whole, 0, 1, -1, 10 ** 30, -10 ** 30)
        self.fails(is_whole, *OTHER_KINDS)

    def test_between(self):
        self.assertEqual([is_between(k, -1, 1) for k in (-2, -1, 0, 1, 2)], [False, True, True, True, False])
        self.assertIs(is_between(True, 0, 1), False)
        self.assertIs(is_between("0", 0, 1), False)

    def test_tuple(self):
        self.assertEqual([is_tuple((5,) * k, 1, 3) for k in range(5)], [False, True, True, True, False])
        self.assertIs(is_tuple([5], 1, 3), False)
        self.assertIs(is_tuple("a", 1, 3), False)

    def test_depth(self):
        self.holds(is_depth, 1, 255, 65535)
        self.fails(is_depth, 0, -1, 65536, *OTHER_KINDS)

    def test_cell(self):
        self.holds(is_cell, (0, 0), (-1000000, 1000000), (1000000, -1000000))
        self.fails(is_cell, (1000001, 0), (0, 1000001), (-1000001, 0), (0, -1000001))
        self.fails(is_cell, (0,), (0, 0, 0), [0, 0], (True, 0), (0, False), ("0", 0), (0, None), ((0,), 0), "ab", 0)
        self.fails(is_cell, *OTHER_KINDS)

    def test_window(self):
        self.holds(is_window, (0, 0, 1, 1), (-1000, 1000, 48, 48), (1000, -1000, 1, 48), (5, -5, 48, 1))
        right = (0, 0, 1, 1)
        for place, wrong in ((0, -1001), (0, 1001), (1, -1001), (1, 1001), (2, 0), (2, 49), (3, 0), (3, 49), (2, -1)):
            self.fails(is_window, right[:place] + (wrong,) + right[place + 1:])
        for place in range(4):
            for wrong in (None, True, "1", (1,), [1], {}):
                self.fails(is_window, right[:place] + (wrong,) + right[place + 1:])
        self.fails(is_window, [0, 0, 1, 1], (0, 0, 1), (0, 0, 1, 1, 1), "aaaa", *OTHER_KINDS)

    def test_name(self):
        self.holds(is_name, "a", "z", "abcdefgh", "zzzzzzzz")
        self.fails(is_name, "", "abcdefghi", "A", "aB", "a1", "a b", "a_b", "ab\n", "\n", " ", "`", "{", "-")
        self.fails(is_name, *[thing for thing in OTHER_KINDS if thing != "a"])


if __name__ == "__main__":
    unittest.main()
