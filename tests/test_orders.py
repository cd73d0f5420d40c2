"""Promises 34 and 35: which stages may be exchanged, a picture that shows it where not, and both ways about tried."""

import itertools
import random
import unittest

from helper import (
    BORDERS, ONE_NAME_KINDS, OTHER_KINDS, Words, inside, keeps, net_of, refuses, some_form, some_picture, some_planes,
    some_stage, some_steps)
from pixelstages.errors import NoDivisor, NoPaper, NoPicture, NoShape, NoStage, NoTone, NoWindow, TooWide
from pixelstages.orders import may_swap, tried
from pixelstages.pictures import Picture
from pixelstages.stages import (
    chosen, curved, enlarged, filtered, flipped, framed, levelled, lifted, met, mixed, moved, own, paired, ranked, reduced,
    source, summed, turned, unlifted, unsummed)
from pixelstages.swaps import CORNERS

MOVES = (moved("a"), moved("a", right=1), moved("a", down=-2), moved("a", right=3, down=3), moved("a", right=-500, down=500),
         moved("a", right=500, down=499), flipped("a"), flipped("a", across=False), turned("a"))
NO_DEPTHS = (0, -1, 65536, *OTHER_KINDS)
CROSS = ((0, 0), (1, 0), (-1, 0), (0, 1), (0, -1))
ANSWERED = ("moved", "flipped", "turned", "curved", "ranked", "filtered", "lifted", "unlifted")


def both_ways(one, other, picture, border=0):
    """The two nets of a picture: of the one made of the other, and the other way about."""
    return [net_of(a=source(picture, border=border), b=(low[0], "a", *low[2:]), c=(top[0], "b", *top[2:]))
            for low, top in ((other, one), (one, other))]


def planes_of(*stages):
    return max([len(stage[2][0][1]) for stage in stages if stage[0] in ("lifted", "unlifted")], default=1)


class Swaps(unittest.TestCase):
    def told(self, one, other, depth):
        """What may_swap tells of two, both ways, after all that can be seen of it was looked at."""
        words = []
        for pair in ((one, other), (other, one)):
            told = keeps(self, lambda *things: may_swap(*things, depth=depth), *pair)
            self.assertIs(type(told), tuple)
            word, picture = told
            words.append(word)
            if word == "same":
                self.assertIsNone(picture)
            else:
                self.assertEqual(word, "unlike")
                self.shows(*pair, picture, depth)
        self.assertEqual(words[0], words[1])
        return words[0]

    def shows(self, one, other, picture, depth):
        self.assertIs(type(picture), Picture)
        left, up, wide, high = picture.window()
        self.assertTrue(wide <= 33 and high <= 33)
        planes = planes_of(one, other) if {one[0], other[0]} <= {"lifted", "unlifted"} else 1
        self.assertEqual((picture.depth, len(picture.planes)), (depth, planes))
        nets = both_ways(one, other, picture)
        for window in ((0, 0, 2, 2), (-20, -20, 41, 41)):
            pictures = [net.whole("c", window) for net in nets]
            unlike = [cell for cell in inside(window)
                      if any([pictures[0].at(*cell, plane=p) != pictures[1].at(*cell, plane=p) for p in range(planes)])]
            if unlike:
                break
        self.assertTrue(unlike, (one, other, depth))
        # What swaps tells of its pictures: more than is promised, but no luck.
        self.assertTrue(any([cell in unlike for cell in CORNERS]), (one, other, depth))
        cell = unlike[0]
        tuples = tried(one, other, picture, cell)
        self.assertNotEqual(*tuples)
        self.assertEqual(tuples, tuple([tuple([told.at(*cell, plane=p) for p in range(planes)]) for told in pictures]))

    def holds(self, one, other, depth, pictures=4):
        """Fails where two that are told to be exchanged are unlike for one of some drawn pictures."""
        chance = random.Random(repr((one, other, depth)))
        for at in range(pictures):
            planes = planes_of(one, other)
            picture = Picture(some_planes(chance, planes, chance.randint(1, 5), chance.randint(1, 5), depth),
                              left=chance.randint(-4, 4), up=chance.randint(-4, 4), depth=depth)
            border = (*BORDERS, chance.randint(0, depth))[at % 4]
            first, second = both_ways(one, other, picture, border)
            self.assertEqual(first.whole("c", (-6, -6, 12, 12)), second.whole("c", (-6, -6, 12, 12)), (one, other))

    def same(self, one, other, depth):
        self.assertEqual(self.told(one, other, depth), "same", (one, other, depth))
        self.holds(one, other, depth)

    def unlike(self, one, other, depth):
        self.assertEqual(self.told(one, other, depth), "unlike", (one, other, depth))

    def test_moves_with_each_other(self):
        for one, other in itertools.product(MOVES, repeat=2):
            kinds = {one[0]: one, other[0]: other}
            if kinds.keys() == {"moved", "flipped"}:
                is_same = kinds["moved"][2 if kinds["flipped"][2] else 3] == 0
            elif kinds.keys() == {"moved", "turned"}:
                is_same = kinds["moved"][2] == kinds["moved"][3]
            else:
                is_same = kinds.keys() != {"flipped", "turned"}
            for depth in (1, 255, 65535):
                self.assertEqual(self.told(one, other, depth), "same" if is_same else "unlike", (one, other))
            if is_same:
                self.holds(one, other, 9)

    def test_moves_with_what_looks_at_no_place(self):
        steps = ((0, (0, 3), 1), (1, (-2, 0), 0))
        for move, other in itertools.product(MOVES, (curved("b", (2, 0, 1)), curved("b", (2, 2, 1), depth=2),
                                                     lifted("b", steps), unlifted("b", steps), lifted("b", ((0, (0,), 0),)))):
            self.same(move, other, 2)
        for move in MOVES:
            self.assertEqual(may_swap(move, lifted("b", ((3, (64, 64, 64, 0), 8),)), depth=65535), ("same", None))
            self.assertEqual(may_swap(move, curved("b", tuple(range(65535, -1, -1))), depth=65535), ("same", None))

    def test_moved_with_filters_and_ranks(self):
        for move, other in itertools.product(MOVES[:6], (
                filtered("b", ((1000, -3), (4, 5)), by=7, plus=2), ranked("b", ((4, -4), (0, 1)), rank=1))):
            self.same(move, other, 9)
        self.assertEqual(may_swap(MOVES[1], filtered("b", ((1000,) * 5,) * 5), depth=65535), ("same", None))

    def test_flips_and_turns_with_filters(self):
        even = ((1, 2, 1), (2, 4, 2), (1, 2, 1))
        for move in MOVES[6:]:
            self.same(move, filtered("b", even, by=16), 9)
            self.same(move, filtered("b", ((0, 0), (0, 5))), 9)
            self.same(move, filtered("b", ((0, 0, 0), (0, 1, 0), (0, 0, 0))), 9)
            self.unlike(move, filtered("b", ((5, 0, 0), (0, 0, 7))), 1)
        self.unlike(flipped("a"), filtered("b", ((1, 2),)), 9)
        self.same(flipped("a", across=False), filtered("b", ((1, 2),)), 9)
        self.unlike(turned("a"), filtered("b", ((1, 1, 1),), by=3), 9)
        self.unlike(flipped("a"), filtered("b", ((1, 0, 2),), by=3), 9)

    def test_filters_whose_weights_are_unlike_but_not_what_they_tell(self):
        # All is rounded to one number, or held.
        self.same(flipped("a"), filtered("b", ((1, 2),), by=100000), 9)
        self.same(turned("a"), filtered("b", ((1, 2),), plus=9), 9)
        self.same(flipped("a"), filtered("b", ((-1, -2),)), 9)
        self.same(flipped("a"), filtered("b", ((3, 0, 4),), by=9), 1)
        # A half goes up: of 4 but not of 3.
        self.unlike(flipped("a"), filtered("b", ((3, 0, 4),), by=8), 1)

    def test_filters_against_a_plain_search(self):
        chance = random.Random(301)
        for _ in range(150):
            depth = chance.choice((1, 1, 2, 3))
            high, wide = chance.randint(1, 3), chance.randint(1, 3)
            weights = [[0] * wide for _ in range(high)]
            for _ in range(chance.randint(1, 3)):
                weights[chance.randrange(high)][chance.randrange(wide)] = chance.choice((-9, -2, -1, 1, 2, 3, 7))
            stage = filtered("b", tuple([tuple(row) for row in weights]), by=chance.choice((1, 2, 5, 10, 20)),
                             plus=chance.choice((-3, 0, 0, 1, 2)))
            move = chance.choice(MOVES[6:])
            there = {(i - wide // 2, j - high // 2): weights[j][i] for j in range(high) for i in range(wide)
                     if weights[j][i]}
            other = {{"turned": (dy, dx), "flipped": (-dx, dy) if move[1:][-1] is True else (dx, -dy)}[move[0]]: weight
                     for (dx, dy), weight in there.items()}
            places = sorted({*there, *other})
            wanted = "same"
            for numbers in itertools.product(range(depth + 1), repeat=len(places)):
                told = []
                for by_place in (there, other):
                    s = sum([by_place.get(place, 0) * number for place, number in zip(places, numbers)])
                    told.append(min(max((2 * s + stage[3]) // (2 * stage[3]) + stage[4], 0), depth))
                if told[0] != told[1]:
                    wanted = "unlike"
                    break
            self.assertEqual(self.told(move, stage, depth), wanted, (move, stage, depth))
            if wanted == "same":
                self.holds(move, stage, depth, pictures=1)

    def test_just_300_and_above(self):
        self.unlike(flipped("a"), filtered("b", ((100, 200),)), 1)
        self.unlike(turned("a"), filtered("b", ((-1, 2),)), 100)
        for stage, depth in ((filtered("b", ((100, 201),)), 1), (filtered("b", ((-1, 2),)), 101)):
            for move in (flipped("a"), turned("a")):
                refuses(self, TooWide, lambda *things: may_swap(*things, depth=depth), move, stage)
                refuses(self, TooWide, lambda *things: may_swap(*things, depth=depth), stage, move)
            self.same(flipped("a", across=False), stage, depth)
            self.same(moved("a", right=3), stage, depth)
        # Alike when they are flipped, they are never too wide.
        self.same(flipped("a"), filtered("b", ((1000, 3, 1000),), by=2000), 65535)
        self.same(turned("a"), filtered("b", ((1000, 3), (3, 1000)), by=2000), 65535)

    def test_flips_and_turns_with_ranks(self):
        chance = random.Random(302)
        for move in MOVES[6:]:
            for _ in range(25):
                form = some_form(chance)
                turn = {"turned": lambda dx, dy: (dy, dx),
                        "flipped": lambda dx, dy: (-dx, dy) if move[-1] is True else (dx, -dy)}[move[0]]
                is_same = {turn(*place) for place in form} == {*form}
                stage, depth = ranked("b", form, rank=chance.randrange(len(form))), chance.choice((1, 9, 65535))
                self.assertEqual(self.told(move, stage, depth), "same" if is_same else "unlike")
            for rank in range(5):
                self.same(move, ranked("b", CROSS, rank=rank), 3)
                self.unlike(move, ranked("b", ((-1, -2), (1, 1), (2, 3), (4, 0), (0, 0)), rank=rank), 3)
                # All but one place are the same ones when they are flipped or turned.
                self.unlike(move, ranked("b", ((-1, 0), (1, 0), (0, 1), (0, -1), (2, 1)), rank=rank), 3)

    def test_curves(self):
        for depth in (1, 2):
            tables = list(itertools.product(range(depth + 1), repeat=depth + 1))
            for one, other in itertools.product(tables, repeat=2):
                is_same = all([one[other[n]] == other[one[n]] for n in range(depth + 1)])
                self.assertEqual(self.told(curved("a", one), curved("b", other, depth=depth), depth),
                                 "same" if is_same else "unlike")
        long = tuple(range(1, 65536)) + (0,)
        self.same(curved("a", long), curved("b", long), 65535)
        self.unlike(curved("a", long), curved("b", tuple(range(65534)) + (65535, 65534)), 65535)

    def test_curves_with_ranks_against_a_plain_search(self):
        places = [(0, 0), (1, 0), (0, 1), (2, 2), (-4, 4)]
        for depth, many in ((1, 1), (1, 2), (1, 3), (2, 1), (2, 2), (2, 3), (2, 4), (2, 5), (3, 3)):
            for table in itertools.product(range(depth + 1), repeat=depth + 1):
                for rank in range(many):
                    is_same = all([sorted([table[n] for n in numbers])[rank] == table[sorted(numbers)[rank]]
                                   for numbers in itertools.product(range(depth + 1), repeat=many)])
                    stage = ranked("b", tuple(places[:many]), rank=rank)
                    self.assertEqual(may_swap(curved("a", table), stage, depth=depth)[0],
                                     "same" if is_same else "unlike", (table, rank, many))
        for many, rank in ((2, 0), (2, 1), (3, 0), (3, 1), (3, 2), (4, 1), (4, 2), (5, 2), (5, 3)):
            for table in itertools.product(range(3), repeat=3):
                self.told(curved("a", table), ranked("b", tuple(places[:many]), rank=rank), 2)
        chance = random.Random(303)
        for _ in range(60):
            depth, form = chance.choice((1, 2, 3, 9, 255)), some_form(chance)
            table = [chance.randint(0, depth) for _ in range(depth + 1)]
            table = chance.choice((table, sorted(table), sorted(table)[::-1]))
            stage = ranked("b", form, rank=chance.choice((chance.randrange(len(form)), len(form) // 2)))
            if self.told(curved("a", tuple(table)), stage, depth) == "same":
                self.holds(curved("a", tuple(table)), stage, depth)

    def test_ranks_with_ranks_against_a_plain_search(self):
        chance = random.Random(304)
        places = inside((-4, -4, 9, 9))
        for _ in range(60):
            forms = [tuple(chance.sample(places, chance.randint(1, 3))) for _ in range(2)]
            if chance.random() < 0.4:
                forms = [tuple([(x, 0) for x in range(chance.randint(1, 4))]) for _ in range(2)]
            one, other = [ranked("a", form, rank=chance.randrange(len(form))) for form in forms]
            self.assertEqual(self.told(one, other, chance.choice((1, 9))), self.by_search(one, other), (one, other))

    def by_search(self, one, other):
        """Of all pictures of 0 and 1 at the places that are read."""
        places = sorted({(dx + ex, dy + ey) for dx, dy in one[2] for ex, ey in other[2]})
        for bits in itertools.product((0, 1), repeat=len(places)):
            there = dict(zip(places, bits))
            told = [sorted([sorted([there[dx + ex, dy + ey] for ex, ey in low[2]])[low[3]] for dx, dy in top[2]])[top[3]]
                    for low, top in ((other, one), (one, other))]
            if told[0] != told[1]:
                return "unlike"
        return "same"

    def test_ranks_of_one_row(self):
        line = tuple([(x, 0) for x in (-1, 0, 1)])
        self.same(ranked("a", line, rank=0), ranked("b", ((0, 0), (0, 1)), rank=0), 9)
        self.same(ranked("a", line, rank=2), ranked("b", ((0, 0), (0, 1)), rank=1), 9)
        self.unlike(ranked("a", line, rank=0), ranked("b", line, rank=2), 9)
        self.unlike(ranked("a", line, rank=1), ranked("b", line, rank=0), 65535)
        self.same(ranked("a", line, rank=1), ranked("b", line, rank=1), 1)
        self.same(ranked("a", ((4, 4),)), ranked("b", ((-4, 3),)), 1)

    def test_forms_that_come_to_12_and_13(self):
        line = tuple([(x - 4, 0) for x in range(9)])
        far = ((-4, -4), (-3, -4), (-2, -4), (-1, -4))
        # 9 and 4 in a row come to 12.
        for rank, other_rank in itertools.product((0, 4, 8), (0, 1, 3)):
            one, other = ranked("a", line, rank=rank), ranked("b", far, rank=other_rank)
            self.assertEqual(self.told(one, other, 1), self.by_search(one, other))
        for more in ((*far, (0, -4)), ((-4, -4), (-4, 4))):
            for pair in ((ranked("a", line), ranked("b", more)), (ranked("b", more, rank=1), ranked("a", line))):
                refuses(self, NoPaper, lambda *things: may_swap(*things, depth=1), *pair)
        many = tuple(inside((-2, -2, 5, 5)))
        refuses(self, NoPaper, lambda *things: may_swap(*things, depth=1), ranked("a", many), ranked("a", ((0, 0),)))
        twelve = tuple(inside((-2, -2, 4, 3)))
        self.same(ranked("a", twelve, rank=5), ranked("a", ((3, 3),)), 1)

    def test_steps_against_a_plain_search(self):
        chance = random.Random(305)
        found = set()
        for _ in range(80):
            planes = chance.randint(1, 3)
            depth = chance.choice((1, 2, 3) if planes == 3 else (1, 3, 9))
            one, other = [chance.choice((lifted, unlifted))("a", some_steps(chance, planes)) for _ in range(2)]
            if chance.random() < 0.2:
                other = chance.choice((lifted, unlifted))("b", one[2])
            numbers = list(itertools.product(range(depth + 1), repeat=planes))
            is_same = True
            for at in range(0, len(numbers), 48):
                part = numbers[at:at + 48]
                picture = Picture(tuple([(tuple([tones[p] for tones in part]),) for p in range(planes)]), depth=depth)
                told = [net.whole("c", picture.window()) for net in both_ways(one, other, picture)]
                is_same = is_same and told[0] == told[1]
            self.assertEqual(self.told(one, other, depth), "same" if is_same else "unlike", (one, other, depth))
            found.add(is_same)
        self.assertEqual(found, {True, False})

    def test_steps_at_just_4096_and_above(self):
        for planes, depth, is_right in ((1, 4095, True), (1, 4096, False), (2, 63, True), (2, 64, False), (3, 15, True),
                                        (3, 16, False), (4, 7, True), (4, 8, False), (4, 65535, False)):
            weights = (0,) + (1,) * (planes - 1)
            one, other = lifted("a", ((0, weights, 0),)), unlifted("b", ((0, weights, 1),))
            if is_right:
                self.assertEqual(self.told(one, other, depth), "same")
                if planes > 1:
                    turn = lifted("a", ((planes - 1, (3,) + (0,) * (planes - 1), 0),))
                    self.unlike(one, turn, depth)
            else:
                refuses(self, NoPaper, lambda *things: may_swap(*things, depth=depth), one, other)

    def test_the_depth_where_left_out(self):
        table = tuple(range(255, -1, -1))
        self.assertEqual(may_swap(curved("a", table), curved("b", table)), ("same", None))
        self.assertEqual(may_swap(flipped("a"), turned("b"))[1].depth, 255)
        with self.assertRaises(TypeError):
            may_swap(flipped("a"), turned("b"), 255)

    def test_whatever_they_are_made_of(self):
        for one, other in itertools.product(("a", "b", "abcdefgh"), repeat=2):
            self.assertEqual(may_swap(turned(one), flipped(other)), may_swap(turned("x"), flipped("x")))


class SwapsRefused(unittest.TestCase):
    def refused(self, error, one, other, depth=2):
        for pair in ((one, other), (other, one)):
            refuses(self, error, lambda *things: may_swap(*things, depth=depth), *pair)

    def test_no_stage(self):
        for thing in (*OTHER_KINDS, 5, turned("A"), moved("a", right=501), ["turned", "a"], filtered("a", (True, (0, 0))),
                      ranked("a", ((0, 0),), rank=1)):
            self.refused(NoStage, thing, turned("a"))
            self.refused(NoStage, thing, thing)

    def test_no_divisor(self):
        for stage in (filtered("a", ((1,),), by=0), mixed("a", ((1,),), by=0)):
            for other in (turned("a"), moved("a"), filtered("a", ((1,),)), stage, unsummed("a")):
                self.refused(NoDivisor, stage, other)

    def test_no_depth(self):
        for depth in NO_DEPTHS:
            self.refused(NoTone, turned("a"), flipped("a"), depth)
            self.refused(NoTone, turned("a"), unsummed("a"), depth)
        self.assertIsNone(refuses(self, NoTone, lambda: may_swap(turned("a"), turned("a"), depth=0)).cell)

    def test_kinds_that_are_not_answered(self):
        chance = random.Random(306)
        right = [some_stage(chance, kind, (1, 2), "a") for kind in ONE_NAME_KINDS]
        right += [source(Picture((((0,),),))), paired("a", "b"), met("a", "b"), chosen("a", "b", "c")]
        answered = {*itertools.product(("moved", "flipped", "turned"), ANSWERED), ("curved", "curved"), ("curved", "ranked"),
                    ("ranked", "ranked"), *itertools.product(("lifted", "unlifted"), repeat=2)}
        for one, other in itertools.product(right, repeat=2):
            if (one[0], other[0]) not in answered and (other[0], one[0]) not in answered:
                self.refused(NoPaper, one, other)

    def test_tables_of_other_depths(self):
        for table in (curved("a", (0, 1)), curved("a", (0, 1, 2, 3)), curved("a", (0, 1, 2), depth=3),
                      curved("a", (0, 1, 1), depth=1), curved("a", (0, 1, 3)), curved("a", (0, 0, 0, 0), depth=2)):
            for other in (*MOVES, curved("a", (0, 1, 2)), table, ranked("a", ((0, 0),))):
                self.refused(NoPaper, table, other)

    def test_steps_of_unlike_many_weights(self):
        for one, other in itertools.product((lifted, unlifted), repeat=2):
            self.refused(NoPaper, one("a", ((0, (0, 1), 0),)), other("a", ((0, (0,), 0),)))
            self.refused(NoPaper, one("a", ((0, (0, 1), 0),)), other("a", ((0, (0, 1, 1), 0),)))

    def test_in_the_order_told(self):
        """Each two that are due at once: the one told first goes first."""
        no_stage, nought = moved("a", right=501), filtered("a", ((1, 2),), by=0)
        wide = filtered("a", ((1, 1000),))
        self.refused(NoStage, no_stage, nought)
        self.refused(NoStage, no_stage, turned("a"), 0)
        self.refused(NoStage, no_stage, unsummed("a"))
        self.refused(NoStage, filtered("a", ((1, 1001),), by=0), turned("a"))
        self.refused(NoDivisor, nought, turned("a"), 0)
        self.refused(NoDivisor, nought, unsummed("a"))
        self.refused(NoDivisor, nought, wide)
        self.refused(NoDivisor, filtered("a", ((1, 1000),), by=0), turned("a"))
        self.refused(NoTone, unsummed("a"), turned("a"), 0)
        self.refused(NoTone, wide, turned("a"), 0)
        self.refused(NoPaper, wide, unsummed("a"))
        self.refused(NoPaper, wide, curved("a", (0, 1, 2)))
        self.refused(TooWide, wide, turned("a"))


class Tried(unittest.TestCase):
    def test_both_ways_by_the_words_of_the_formulas(self):
        chance = random.Random(307)
        done = set()
        for _ in range(600):
            planes, depth = chance.randint(1, 3), chance.choice((1, 9, 255))
            kinds = chance.sample(ONE_NAME_KINDS, 2)
            one, other = [some_stage(chance, kind, (planes, depth), "x") for kind in kinds]
            picture, cell = some_picture(chance, planes, depth), (chance.randint(-9, 9), chance.randint(-9, 9))
            try:
                nets = both_ways(one, other, picture)
            except NoShape:
                refuses(self, NoShape, lambda *cells: tried(one, other, picture, *cells), cell)
                continue
            told = keeps(self, lambda *cells: tried(one, other, picture, *cells), cell)
            self.assertEqual(type(told), tuple)
            for numbers, net in zip(told, nets):
                words = Words(net)
                self.assertEqual(numbers, tuple([words.number("c", *cell, p) for p in range(words.shape("c")[0])]))
            done |= {*kinds}
        self.assertEqual(done, {*ONE_NAME_KINDS})

    def test_which_comes_first(self):
        picture = Picture((((1, 2), (3, 4)),), depth=9)
        self.assertEqual(tried(moved("a", right=1), flipped("b"), picture, (0, 0)), ((2,), (0,)))
        self.assertEqual(tried(flipped("b"), moved("a", right=1), picture, (0, 0)), ((0,), (2,)))

    def test_planes(self):
        picture = Picture((((1,),), ((2,),)), depth=9)
        self.assertEqual(tried(turned("a"), mixed("b", ((1, 1), (0, 1), (1, 0))), picture, (0, 0)), ((3, 2, 1), (3, 2, 1)))

    def test_every_kind_made_of_one(self):
        picture = Picture((((1, 2), (3, 4)),), depth=9)
        chance = random.Random(308)
        for stage in [some_stage(chance, kind, (1, 9), "a") for kind in ONE_NAME_KINDS]:
            told = tried(moved("a"), stage, picture, (0, 0))
            self.assertEqual(told[0], told[1], stage)

    def test_far_away(self):
        picture = Picture((((7,),),), depth=9)
        for cell in ((1000000, -1000000), (-1000000, 1000000)):
            self.assertEqual(tried(reduced("a", wide=8, high=8), enlarged("b", wide=8, high=8), picture, cell), ((0,), (0,)))
        self.assertEqual(tried(levelled("a", (0, 0, 48, 48)), summed("b", (-40, -40, 48, 48)), picture, (0, 0)),
                         tuple([tuple([net.whole("c", (0, 0, 1, 1)).at(0, 0)]) for net in both_ways(
                             levelled("a", (0, 0, 48, 48)), summed("b", (-40, -40, 48, 48)), picture)]))

    def test_own_defs(self):
        picture = Picture((((1,),),), depth=9)
        self.assertEqual(tried(own("a", lambda numbers: 9 - numbers[0]), moved("b"), picture, (0, 0)), ((8,), (8,)))
        refuses(self, NoTone, lambda: tried(own("a", lambda numbers: 10), moved("b"), picture, (0, 0)))

        def never(numbers):
            raise KeyError("no")
        refuses(self, KeyError, lambda: tried(moved("a"), own("a", never), picture, (0, 0)))

    def test_no_shape(self):
        picture = Picture((((1,),), ((2,),)), depth=9)
        for one, other in ((moved("a"), curved("b", (0, 1))), (curved("a", (0,) * 10, depth=3), curved("a", (0,) * 10)),
                           (mixed("a", ((1, 1),)), mixed("a", ((1, 1),))), (lifted("a", ((0, (0,), 0),)), turned("a")),
                           (framed("a", (0, 0, 1, 1), border=10), turned("a")), (own("a", max), mixed("b", ((1, 1),)))):
            for pair in ((one, other), (other, one)):
                refuses(self, NoShape, lambda: tried(*pair, picture, (0, 0)))

    def test_refusals(self):
        picture = Picture((((1,),),))
        for thing in (*OTHER_KINDS, turned("A"), moved("a", right=501)):
            for pair in ((thing, turned("a")), (turned("a"), thing)):
                refuses(self, NoStage, lambda: tried(*pair, picture, (0, 0)))
        for stage in (filtered("a", ((1,),), by=0), mixed("a", ((1,),), by=0)):
            for pair in ((stage, turned("a")), (turned("a"), stage)):
                refuses(self, NoDivisor, lambda: tried(*pair, picture, (0, 0)))
        for stage in (source(picture), paired("a", "b"), met("a", "b"), chosen("a", "b", "c")):
            for pair in ((stage, turned("a")), (turned("a"), stage), (stage, stage)):
                refuses(self, NoPaper, lambda: tried(*pair, picture, (0, 0)))
        for thing in (*OTHER_KINDS, picture.planes):
            refuses(self, NoPicture, lambda thing: tried(turned("a"), turned("a"), thing, (0, 0)), thing)
        for cell in ((1000001, 0), (0, -1000001), (0,), (0, 0, 0), [0, 0], (True, 0), "ab", 5, *OTHER_KINDS):
            refuses(self, NoWindow, lambda cell: tried(turned("a"), turned("a"), picture, cell), cell)

    def test_in_the_order_told(self):
        """Each two that are due at once: the one told first goes first."""
        picture = Picture((((1,),),))
        right = {"one": turned("a"), "other": turned("a"), "picture": picture, "cell": (0, 0)}
        due = ((NoStage, "one", None), (NoDivisor, "other", filtered("a", ((1,),), by=0)), (NoPaper, "one", met("a", "b")),
               (NoPicture, "picture", None), (NoWindow, "cell", None), (NoShape, "other", curved("a", (0, 0))))
        for (error, word, thing), (_, other_word, other) in itertools.combinations(due, 2):
            if word != other_word:
                things = {**right, word: thing, other_word: other}
                refuses(self, error, lambda: tried(*things.values()))
        refuses(self, NoStage, lambda: tried(filtered("a", ((1,),), by=0), None, picture, (0, 0)))
        refuses(self, NoDivisor, lambda: tried(filtered("a", ((1,),), by=0), met("a", "b"), picture, (0, 0)))
        refuses(self, NoPaper, lambda: tried(met("a", "b"), curved("a", (0, 0)), picture, (0, 0)))
        refuses(self, NoShape, lambda: tried(own("a", lambda numbers: -1), curved("a", (0, 0)), picture, (0, 0)))


if __name__ == "__main__":
    unittest.main()
