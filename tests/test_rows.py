"""Promises 37 to 39, and 4 as far as it speaks of them: plain forms, ways to them, and what tells rows apart."""

import itertools
import random
import time
import unittest

from helper import OTHER_KINDS, keeps, parts_spoilt, refuses, spoilt
from pixelstages.errors import NoRow, NoTone
from pixelstages.pictures import Picture
from pixelstages.plains import cell_of, cell_reading
from pixelstages.rows import apart, is_way, plain, way
from pixelstages.stages import curved, filtered, flipped, lifted, mixed, moved, source, turned

ACROSS, DOWN, TURNED = flipped("in"), flipped("in", across=False), turned("in")
NO_DEPTHS = (0, -1, 65536, *OTHER_KINDS)
NAMES = ("in", "a", "b", "abcdefgh")


def behind(stage, depth):
    return stage[3] if stage[0] == "curved" and stage[3] is not None else depth


def end_of(row, depth):
    for stage in row:
        depth = behind(stage, depth)
    return depth


def number_at(row, picture, cell):
    """What a row tells of a picture, beyond which 0 stands, by the formulas of 8."""
    x, y = cell
    for stage in row[::-1]:
        if stage[0] == "moved":
            x, y = x - stage[2], y - stage[3]
        elif stage[0] == "flipped":
            x, y = (-x, y) if stage[2] else (x, -y)
        elif stage[0] == "turned":
            x, y = y, x
    left, up, wide, high = picture.window()
    number = picture.at(x, y) if left <= x < left + wide and up <= y < up + high else 0
    for stage in row:
        if stage[0] == "curved":
            number = stage[2][number]
    return number


def told(row, depth):
    """A row as it is told: made of "in", a depth that stays None."""
    rows = []
    for stage in row:
        if stage[0] == "curved":
            rows.append(curved("in", stage[2], depth=None if stage[3] in (None, depth) else stage[3]))
        else:
            rows.append((stage[0], "in", *stage[2:]))
        depth = behind(stage, depth)
    return rows


def some_row(chance, many, depth, curves=0.3):
    row = []
    for _ in range(many):
        name = chance.choice(NAMES)
        if chance.random() < curves:
            end = chance.choice((depth, depth, depth, 1, 3, 5))
            new_depth = None if end == depth and chance.random() < 0.5 else end
            table = chance.choice((tuple([chance.randint(0, end) for _ in range(depth + 1)]),
                                   tuple([min(n, end) for n in range(depth + 1)]),
                                   tuple([max(0, end - n) for n in range(depth + 1)])))
            row.append(curved(name, table, depth=new_depth))
            depth = end
        else:
            row.append(chance.choice((
                moved(name, right=chance.choice((-3, 0, 1, 500)), down=chance.choice((0, 2, -500))), flipped(name),
                flipped(name, across=False), turned(name), moved(name))))
    return row


def is_idle(stage):
    if stage[0] == "moved":
        return stage[2:] == (0, 0)
    return stage[0] == "curved" and stage[3] is None and list(stage[2]) == list(range(len(stage[2])))


def tells_one_number(stage):
    return stage[0] == "curved" and len({*stage[2]}) == 1


def exchanged(one, other):
    """The two neighbours exchanged by the words of 38; None where they may not be."""
    kinds = {one[0], other[0]}
    pair = {one[0]: one, other[0]: other}
    if kinds == {"moved", "flipped"}:
        right, down = pair["moved"][2:]
        pair["moved"] = ("moved", "in", 0 - right, down) if pair["flipped"][2] else ("moved", "in", right, 0 - down)
    elif kinds == {"moved", "turned"}:
        right, down = pair["moved"][2:]
        pair["moved"] = ("moved", "in", down, right)
    elif kinds == {"flipped", "turned"}:
        pair["flipped"] = ("flipped", "in", not pair["flipped"][2])
    elif kinds == {"flipped"} and one[2] != other[2]:
        return [other, one]
    elif "curved" not in kinds or len(kinds) == 1:
        return None
    return [pair[other[0]], pair[one[0]]]


def put_together(one, other):
    if one[0] == other[0] == "moved":
        return ("moved", "in", one[2] + other[2], one[3] + other[3])
    if one[0] == other[0] == "curved":
        start = len(one[2]) - 1
        end = behind(other, behind(one, start))
        return ("curved", "in", tuple([other[2][number] for number in one[2]]), None if end == start else end)
    return None


def steps(row):
    """All rows that come of a row by one step, by the words of 38."""
    rows = []
    for at, stage in enumerate(row):
        beside = row[max(0, at - 1):at] + row[at + 1:at + 2]
        if is_idle(stage) or (stage[0] != "curved" and any([tells_one_number(one) for one in beside])):
            rows.append(row[:at] + row[at + 1:])
    for at, (one, other) in enumerate(zip(row, row[1:])):
        pair, single = exchanged(one, other), put_together(one, other)
        if pair is not None:
            rows.append(row[:at] + pair + row[at + 2:])
        if single is not None:
            rows.append(row[:at] + [single] + row[at + 2:])
        if one[0] == other[0] and one[0] in ("turned", "flipped") and one[2:] == other[2:]:
            rows.append(row[:at] + row[at + 2:])
    return rows


class Rows(unittest.TestCase):
    def plain(self, row, depth):
        form = keeps(self, lambda row: plain(row, depth=depth), row)
        self.assertIs(type(form), list)
        return form

    def same_for_pictures(self, row, other, depth, chance):
        self.assertEqual(end_of(row, depth), end_of(other, depth))
        for _ in range(3):
            picture = Picture((tuple([tuple([chance.randint(0, depth) for _ in range(5)]) for _ in range(4)]),),
                              left=chance.randint(-3, 3), up=chance.randint(-3, 3), depth=depth)
            # About where the row brings the picture: back from there by its moves and flips.
            for x, y in itertools.product(range(-4, 8), repeat=2):
                cell = self.brought(row, (x, y))
                self.assertEqual(number_at(row, picture, cell), number_at(other, picture, cell), (row, other))

    def brought(self, row, cell):
        """The cell of a row that reads a cell of the picture."""
        x, y = cell
        for stage in row:
            if stage[0] == "moved":
                x, y = x + stage[2], y + stage[3]
            elif stage[0] == "flipped":
                x, y = (-x, y) if stage[2] else (x, -y)
            elif stage[0] == "turned":
                x, y = y, x
        return (x, y)

    def is_plain(self, row, depth):
        """By the words of 37."""
        kinds = [stage[0] if stage[0] != "flipped" else ("across" if stage[2] else "down") for stage in row]
        order = ["turned", "across", "down", "moved", "curved"]
        self.assertEqual(kinds, [kind for kind in order if kind in kinds])
        for stage in row:
            self.assertIs(type(stage), tuple)
            self.assertEqual(stage[1], "in")
            self.assertFalse(is_idle(stage))
            self.assertFalse(tells_one_number(stage) and len(row) > 1)
            if stage[0] == "curved":
                self.assertNotEqual(stage[3], depth)

    def test_plain_forms_of_drawn_rows(self):
        chance = random.Random(501)
        for many in (*range(0, 12), 20, 39, 40):
            for _ in range(12):
                depth = chance.choice((1, 2, 3))
                row = some_row(chance, many, depth, curves=chance.choice((0, 0.1, 0.4)))
                form = self.plain(row, depth)
                self.is_plain(form, depth)
                self.same_for_pictures(row, form, depth, chance)
                self.assertEqual(self.plain(form, depth), form)

    def test_some_by_hand(self):
        self.assertEqual(plain([]), [])
        self.assertEqual(plain([moved("a"), flipped("a"), flipped("b"), turned("c"), turned("c")]), [])
        self.assertEqual(plain([moved("a", right=1), flipped("a")]), [ACROSS, moved("in", right=-1)])
        self.assertEqual(plain([flipped("a"), moved("a", right=1)]), [ACROSS, moved("in", right=1)])
        self.assertEqual(plain([moved("a", right=1, down=2), turned("a")]), [TURNED, moved("in", right=2, down=1)])
        self.assertEqual(plain([flipped("a"), turned("a")]), [TURNED, DOWN])
        self.assertEqual(plain([turned("a"), flipped("a")]), [TURNED, ACROSS])
        self.assertEqual(plain([flipped("a", across=False), flipped("a")]), [ACROSS, DOWN])
        self.assertEqual(plain([curved("a", (1, 0)), moved("a", down=3), turned("a")], depth=1),
                         [TURNED, moved("in", right=3), curved("in", (1, 0))])
        self.assertEqual(plain([curved("a", (1, 0)), curved("a", (1, 0), depth=1)], depth=1), [])
        self.assertEqual(plain([curved("a", (0, 1), depth=2)], depth=1), [curved("in", (0, 1), depth=2)])
        self.assertEqual(plain([curved("a", (0, 2), depth=2), curved("a", (1, 0, 0), depth=1)], depth=1),
                         [curved("in", (1, 0))])
        self.assertEqual(plain([curved("a", (0, 1), depth=2), turned("a"), curved("b", (0, 1, 1), depth=1)], depth=1),
                         [TURNED])

    def test_tables_of_one_number_alone(self):
        self.assertEqual(plain([turned("a"), moved("a", right=9), curved("a", (1, 1)), flipped("a")], depth=1),
                         [curved("in", (1, 1))])
        self.assertEqual(plain([turned("a"), curved("a", (0, 1, 0)), curved("a", (2, 2, 0))], depth=2),
                         [curved("in", (2, 2, 2))])
        self.assertEqual(plain([turned("a"), curved("a", (4, 4, 4), depth=4)], depth=2), [curved("in", (4, 4, 4), depth=4)])

    def test_whichever_whole_numbers(self):
        far = 10 ** 30
        self.assertEqual(plain([moved("a", right=far, down=-far), turned("b"), moved("c", right=far + 1)]),
                         [TURNED, moved("in", right=1, down=far)])

    def test_the_longest_tables(self):
        back = tuple(range(65535, -1, -1))
        self.assertEqual(plain([curved("a", back), turned("a"), curved("b", back)], depth=65535), [TURNED])
        self.assertEqual(plain([curved("a", back)] * 39, depth=65535), [curved("in", back)])

    def test_what_is_left_out(self):
        table = tuple(range(255, -1, -1))
        self.assertEqual(plain([curved("a", table)]), [curved("in", table)])
        self.assertEqual(way([curved("a", table)]), [[curved("in", table)]])
        self.assertIs(is_way([[curved("in", table)]]), True)
        self.assertIsNone(apart([curved("a", table)], [curved("a", table, depth=255)]))
        for act in (lambda: plain([], 1), lambda: way([], 1), lambda: is_way([[]], 1), lambda: apart([], [], 1)):
            self.assertRaises(TypeError, act)

    def test_lists_are_the_askers_own(self):
        row = [turned("in")]
        form, rows = plain(row), way(row)
        form.append(turned("in"))
        rows[0].append(turned("in"))
        rows.clear()
        self.assertEqual((row, plain(row), way(row)), ([turned("in")], [turned("in")], [[turned("in")]]))


class Ways(unittest.TestCase):
    def test_ways_of_drawn_rows(self):
        chance = random.Random(502)
        for many in (*range(0, 10), 20, 40):
            for _ in range(8):
                depth = chance.choice((1, 2, 3))
                row = some_row(chance, many, depth, curves=chance.choice((0, 0.1, 0.5)))
                rows = keeps(self, lambda row: way(row, depth=depth), row)
                self.assertEqual({type(rows), *[type(one) for one in rows]}, {list})
                self.assertEqual(rows[0], told(row, depth))
                self.assertEqual(rows[-1], plain(row, depth=depth))
                for one, other in zip(rows, rows[1:]):
                    self.assertIn(other, steps(one))
                    self.assertEqual(other, told(other, depth))
                self.assertIs(keeps(self, lambda rows: is_way(rows, depth=depth), rows), True)

    def test_every_way_by_the_words(self):
        """Drawn walks by any of the rules, whether or not they come to a plain form."""
        chance = random.Random(503)
        found = {True: 0, False: 0}
        for _ in range(300):
            depth = chance.choice((1, 2))
            rows = [told(some_row(chance, chance.randint(0, 4), depth), depth)]
            for _ in range(chance.randint(0, 12)):
                more = steps(rows[-1])
                if not more or (rows[-1] == plain(rows[-1], depth=depth) and chance.random() < 0.5):
                    break
                # Rather to shorter rows, so that some walks come to an end.
                rows.append(min(chance.sample(more, min(2, len(more))), key=len))
            wanted = rows[-1] == plain(rows[-1], depth=depth)
            self.assertIs(is_way(rows, depth=depth), wanted, rows)
            found[wanted] += 1
        self.assertTrue(min(found.values()) > 20, found)

    def test_rows_out_twice_exchanged(self):
        chance = random.Random(504)
        for _ in range(60):
            depth = chance.choice((1, 2))
            rows = way(some_row(chance, chance.randint(2, 7), depth), depth=depth)
            for at in range(len(rows)):
                self.as_by_words(rows[:at] + rows[at + 1:], depth)
                self.as_by_words(rows[:at + 1] + rows[at:], depth, wanted=False)
                if at:
                    self.as_by_words([*rows[:at - 1], rows[at], rows[at - 1], *rows[at + 1:]], depth)
            self.as_by_words(rows[::-1], depth)
            self.as_by_words(rows[:-1], depth)

    def as_by_words(self, rows, depth, wanted=None):
        by_words = bool(rows) and all([other in steps(one) for one, other in zip(rows, rows[1:])]) and (
            rows[-1] == plain(rows[-1], depth=depth))
        self.assertIs(is_way(rows, depth=depth), by_words)
        if wanted is not None:
            self.assertIs(by_words, wanted)

    def test_with_a_row_out_or_two_exchanged_it_is_none(self):
        """No step of a told way could be spared, but for the first one, whose row is then another one."""
        chance = random.Random(507)
        for _ in range(300):
            depth = chance.choice((1, 2))
            row = some_row(chance, chance.randint(1, 9), depth, curves=chance.choice((0, 0.2, 0.5)))
            rows = way(row, depth=depth)
            for at in range(1, len(rows)):
                self.assertIs(is_way(rows[:at] + rows[at + 1:], depth=depth), False, rows)
                self.assertIs(is_way([*rows[:at - 1], rows[at], rows[at - 1], *rows[at + 1:]], depth=depth), False, rows)
            self.assertIs(is_way(rows[1:], depth=depth), len(rows) > 1)

    def test_each_rule_by_itself(self):
        move, flat, curve = moved("in", right=3, down=4), curved("in", (1, 1)), curved("in", (1, 0))
        for one, other, is_right in (
                ([move, ACROSS], [ACROSS, moved("in", right=-3, down=4)], True),
                ([move, DOWN], [DOWN, moved("in", right=3, down=-4)], True),
                ([move, DOWN], [DOWN, moved("in", right=-3, down=4)], False),
                ([move, ACROSS], [ACROSS, move], False),
                ([move, TURNED], [TURNED, moved("in", right=4, down=3)], True),
                ([move, TURNED], [TURNED, move], False),
                ([ACROSS, TURNED], [TURNED, DOWN], True), ([DOWN, TURNED], [TURNED, ACROSS], True),
                ([ACROSS, TURNED], [TURNED, ACROSS], False),
                ([curve, TURNED], [TURNED, curve], True), ([curve, DOWN], [DOWN, curve], True),
                ([curve, move], [move, curve], True), ([DOWN, ACROSS], [ACROSS, DOWN], True),
                ([move, moved("in", down=1)], [moved("in", right=3, down=5)], True),
                ([move, moved("in", right=-3, down=-4)], [], False),
                ([curve, curve], [], False), ([TURNED, TURNED], [], True), ([ACROSS, ACROSS], [], True),
                ([DOWN, DOWN], [], True), ([DOWN, ACROSS], [], False), ([moved("in")], [], True),
                ([curved("in", (0, 1))], [], True), ([curved("in", (0, 1), depth=2)], [], False), ([curve], [], False),
                ([move, flat], [flat], True), ([TURNED, flat], [flat], True), ([DOWN, flat], [flat], True),
                ([flat, move], [flat], True), ([flat, TURNED], [flat], True), ([flat, ACROSS], [flat], True),
                ([flat, curve], [flat], False), ([flat, curve], [curved("in", (0, 0))], True),
                ([curve, flat], [flat], True), ([TURNED, DOWN, flat], [TURNED, flat], False),
                ([curve, curved("in", (0, 1), depth=3)], [curved("in", (1, 0), depth=3)], True),
                ([curved("in", (2, 3), depth=3), curved("in", (0, 0, 0, 1), depth=1)], [curved("in", (0, 1))], False)):
            self.assertIs(is_way([one, other], depth=1), is_right, (one, other))
        # What comes of the last one isn't plain yet, but by one more step.
        rows = [[curved("in", (2, 3), depth=3), curved("in", (0, 0, 0, 1), depth=1)], [curved("in", (0, 1))], []]
        self.assertIs(is_way(rows, depth=1), True)
        self.assertIs(is_way([[move, moved("in", right=-3, down=-4)], [moved("in")], []], depth=1), True)
        self.assertIs(is_way([[TURNED, DOWN, flat], [TURNED, flat], [flat]], depth=1), True)
        self.assertIs(is_way([[TURNED, DOWN, flat], [DOWN, flat], [flat]], depth=1), False)

    def test_what_may_not_be_exchanged(self):
        one, two = moved("in", right=1), moved("in", down=5)
        self.assertIs(is_way([[one, two], [two, one], [moved("in", right=1, down=5)]], depth=2), False)
        one, two = curved("in", (1, 0, 2)), curved("in", (0, 2, 1))
        for first, second in ((one, two), (two, one)):
            whole = put_together(second, first)
            self.assertIs(is_way([[first, second], [second, first], [whole]], depth=2), False)
            self.assertIs(is_way([[second, first], [whole]], depth=2), True)

    def test_another_stage_is_no_step(self):
        for rows in ([[TURNED, DOWN], [TURNED, ACROSS]], [[moved("in", right=1)], [moved("in", right=2)]],
                     [[DOWN], [ACROSS]], [[TURNED, TURNED], [TURNED, ACROSS]], [[], [TURNED]], [[TURNED], []]):
            self.assertIs(is_way(rows, depth=1), False, rows)

    def test_backwards_is_none(self):
        self.assertIs(is_way([[ACROSS, moved("in", right=-1)], [moved("in", right=1), ACROSS]], depth=1), False)
        self.assertIs(is_way([[], [TURNED, TURNED], []], depth=1), False)

    def test_the_last_one_must_be_plain(self):
        self.assertIs(is_way([[]]), True)
        for row in ([moved("in")], [ACROSS, TURNED], [moved("in", right=1), moved("in", right=1)], [DOWN, ACROSS],
                    [TURNED, curved("in", (1, 1))]):
            self.assertIs(is_way([row], depth=1), False)
        self.assertIs(is_way([[TURNED, ACROSS, DOWN, moved("in", right=1), curved("in", (1, 0))]], depth=1), True)

    def test_rows_that_are_not_as_told(self):
        for row in ([turned("a")], [moved("a", right=1)], [curved("in", (1, 0), depth=1)], (TURNED,), [("turned",)],
                    [["turned", "in"]], [curved("in", (1, 0, 0))], [moved("in", right=True)], [curved("in", (True, 0))],
                    [("flipped", "in", 1)], [TURNED] * 41, None, [None], [filtered("in", ((1,),))]):
            self.assertIs(is_way([row], depth=1), False, row)
            self.assertIs(is_way([row, []], depth=1), False)
            self.assertIs(is_way([[TURNED, TURNED], row, []], depth=1), False)

    def test_a_truth_for_a_number(self):
        """As True equals 1 for Python, each row is looked at by itself."""
        rows = way([moved("a", right=1), turned("a"), curved("a", (1, 0))], depth=1)
        self.assertGreater(len(rows), 1)
        for at, row in enumerate(rows):
            for place, stage in enumerate(row):
                other = {"moved": ("moved", "in", stage[2] or False, True) if len(stage) > 3 and stage[3] == 1 else (
                    "moved", "in", True, 0), "turned": stage, "curved": ("curved", "in", (True, False), None)}[stage[0]]
                if repr(other) != repr(stage):
                    wrong = spoilt(tuple(rows), at, [*row[:place], other, *row[place + 1:]])
                    self.assertIs(is_way(list(wrong), depth=1), False)

    def test_each_part_spoilt(self):
        rows = way([moved("a", right=1, down=2), turned("a"), curved("a", (1, 0)), flipped("a")], depth=1)
        as_tuples = tuple([tuple(row) for row in rows])
        for wrong in parts_spoilt(as_tuples, OTHER_KINDS):
            again = [list(row) if isinstance(row, tuple) else row for row in wrong]
            if repr(again) != repr(rows):
                self.assertIs(keeps(self, lambda things: is_way(things, depth=1), again), False)

    def test_what_is_no_list_of_rows(self):
        for thing in (*OTHER_KINDS, 5, ([],), ([TURNED],), [()], [TURNED], {0: []}, "way"):
            self.assertIs(keeps(self, is_way, thing), False)

    def test_no_depth(self):
        for depth in NO_DEPTHS:
            refuses(self, NoTone, lambda: is_way([[]], depth=depth))
            refuses(self, NoTone, lambda: is_way(None, depth=depth))

    def test_the_greatest_ways_soon(self):
        chance = random.Random(505)
        start = time.perf_counter()
        for depth in (255, 65535):
            back = tuple(range(depth, -1, -1))
            row = [chance.choice((moved("a", right=1), turned("a"), flipped("a"), flipped("a", across=False), curved("a", back)))
                   for _ in range(40)]
            rows = way(row, depth=depth)
            self.assertEqual(rows[-1], plain(row, depth=depth))
            if depth == 255:
                self.assertIs(is_way(rows), True)
        self.assertLess(time.perf_counter() - start, 20)


class Poses(unittest.TestCase):
    def test_the_cell_that_reads_a_cell(self):
        for pose in itertools.product((True, False), (True, False), (True, False), (0, 3), (0, -7)):
            for cell in itertools.product((-2, 0, 5), repeat=2):
                self.assertEqual(cell_of(pose, cell_reading(pose, cell)), cell)


class Apart(unittest.TestCase):
    def told(self, row, other, depth):
        """What is told of two rows, both ways about, behind all that can be seen of it."""
        told_both = []
        for one, two in ((row, other), (other, row)):
            told_one = keeps(self, lambda *rows: apart(*rows, depth=depth), one, two)
            told_both.append(told_one is None)
            if told_one is None:
                continue
            self.assertIs(type(told_one), tuple)
            picture, cell = told_one
            self.assertEqual((type(picture), type(cell), len(cell)), (Picture, tuple, 2))
            self.assertEqual((picture.depth, len(picture.planes)), (depth, 1))
            if end_of(one, depth) == end_of(two, depth):
                self.assertNotEqual(number_at(one, picture, cell), number_at(two, picture, cell), (one, two))
        self.assertEqual(told_both[0], told_both[1])
        return told_both[0]

    def test_drawn_rows(self):
        chance = random.Random(506)
        found = {True: 0, False: 0}
        for _ in range(500):
            depth = chance.choice((1, 1, 2, 3))
            row = some_row(chance, chance.randint(0, 6), depth)
            other = chance.choice((some_row(chance, chance.randint(0, 6), depth), plain(row, depth=depth),
                                   chance.choice(way(row, depth=depth))))
            if chance.random() < 0.3:
                other = [*other, chance.choice((turned("a"), flipped("b"), moved("c", right=1), moved("c")))]
            is_same = plain(row, depth=depth) == plain(other, depth=depth)
            self.assertIs(self.told(row, other, depth), is_same, (row, other))
            found[is_same] += 1
        self.assertTrue(min(found.values()) > 50, found)

    def test_every_two_poses(self):
        poses = [[stage for stage, is_there in zip((TURNED, ACROSS, DOWN, move), (*bits, move[2:] != (0, 0))) if is_there]
                 for bits in itertools.product((True, False), repeat=3)
                 for move in (moved("in"), moved("in", right=1), moved("in", down=-1), moved("in", right=2, down=2))]
        for one, other in itertools.product(poses, repeat=2):
            self.assertIs(self.told(one, other, 1), one == other)

    def test_every_two_tables_with_poses(self):
        tables = [curved("in", table) for table in itertools.product(range(3), repeat=3)]
        for one, other in itertools.product(tables, repeat=2):
            for poses in (([], []), ([TURNED], []), ([moved("in", right=5)], [DOWN])):
                rows = [[*pose, table] for pose, table in zip(poses, (one, other))]
                self.assertIs(self.told(*rows, 2), plain(rows[0], depth=2) == plain(rows[1], depth=2), rows)

    def test_unlike_depths(self):
        self.assertIs(self.told([], [curved("a", (0, 1), depth=2)], 1), False)
        self.assertIs(self.told([curved("a", (1, 1), depth=3)], [curved("a", (1, 1), depth=2)], 1), False)

    def test_whichever_whole_numbers(self):
        far = 10 ** 30
        self.assertIs(self.told([moved("a", right=far)], [moved("a", right=far + 1)], 9), False)
        self.assertIs(self.told([moved("a", right=far), turned("b")], [turned("b"), moved("a", down=far)], 9), True)

    def test_the_longest_tables(self):
        one, other = tuple(range(65536)), (*range(65534), 65535, 65534)
        self.assertIs(self.told([curved("a", one)], [curved("a", other)], 65535), False)
        self.assertIs(self.told([curved("a", one)], [], 65535), True)


class Refused(unittest.TestCase):
    def refused(self, error, row, depth=1):
        for act in (lambda row: plain(row, depth=depth), lambda row: way(row, depth=depth),
                    lambda row: apart(row, [], depth=depth), lambda row: apart([], row, depth=depth),
                    lambda row: apart(row, row, depth=depth)):
            caught = refuses(self, error, act, row)
        return caught

    def test_no_row(self):
        for thing in [one for one in OTHER_KINDS if one != []] + [5, (TURNED,), "row", TURNED]:
            self.refused(NoRow, thing)

    def test_stages_that_are_none(self):
        for thing in (*OTHER_KINDS, 5, turned("A"), turned(None), ("turned",), ("turned", "in", 0), moved("in", right=None),
                      moved("in", down=True), moved("A"), ["turned", "in"], ("flipped", "in", 1), ("moved", "in", 0),
                      ("moved", "in", 0, 0, 0), ("moved",), ("moved", "in", 600, 0, None), ("moved", ["in"], 600, 0),
                      filtered("a", ((1,),)), lifted("a", ((0, (0,), 0),)), mixed("a", ((1,),)), source(Picture((((0,),),))),
                      filtered("a", ((1,),), by=0)):
            self.refused(NoRow, [thing])
            self.refused(NoRow, [turned("a"), thing])
            self.refused(NoRow, [thing, turned("a")])

    def test_each_part_spoilt(self):
        row = (moved("a", right=1), turned("a"), curved("a", (1, 0)), flipped("a"))
        for wrong in parts_spoilt(row, [thing for thing in OTHER_KINDS if thing not in ("a", None)]):
            if repr(wrong) != repr(row) and not any([stage == ("flipped", "a", False) for stage in wrong]):
                self.refused(NoRow, list(wrong))

    def test_tables_that_do_not_fit(self):
        for row in ([curved("a", (0, 1, 2))], [curved("a", (0, 2))], [curved("a", (0, 2), depth=1)],
                    [curved("a", (0, 2), depth=2), curved("a", (0, 1))], [curved("a", (0,))],
                    [curved("a", (0, 2), depth=2), turned("a"), curved("a", (0, 1, 2), depth=1)]):
            self.refused(NoRow, row)
        self.assertEqual(plain([curved("a", (0, 2), depth=2), curved("a", (0, 1, 2))], depth=1),
                         [curved("in", (0, 2), depth=2)])

    def test_how_many(self):
        self.assertEqual(plain([turned("a")] * 40), [])
        self.refused(NoRow, [turned("a")] * 41)

    def test_no_depth(self):
        for depth in NO_DEPTHS:
            self.assertIsNone(self.refused(NoTone, [], depth).cell)

    def test_no_tone_ahead_of_no_row(self):
        for thing in (None, [None], (TURNED,), [curved("a", (0, 1))]):
            self.refused(NoTone, thing, 0)
        refuses(self, NoTone, lambda: apart(None, None, depth=0))
        refuses(self, NoRow, lambda: apart(None, None, depth=1))


if __name__ == "__main__":
    unittest.main()
