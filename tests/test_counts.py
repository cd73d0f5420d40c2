"""Promise 21: which places count, and the two pictures that show it."""

import itertools
import random
import unittest

from helper import OTHER_KINDS, inside, keeps, net_of, refuses, some_form
from pixelstages.counts import counting, shown
from pixelstages.errors import NoDivisor, NoPlace, NoStage, NoTone, TooWide
from pixelstages.pictures import Picture
from pixelstages.stages import filtered, mixed, moved, ranked, source, turned

ALL_PLACES = inside((-4, -4, 9, 9))


def places_of(stage):
    """The places that a stage reads, each with its weight (of a form 1), dy first."""
    if stage[0] == "ranked":
        there = {place: 1 for place in stage[2]}
    else:
        high, wide = len(stage[2]), len(stage[2][0])
        there = {(i - wide // 2, j - high // 2): stage[2][j][i] for j in range(high) for i in range(wide)}
    return {place: there[place] for place in ALL_PLACES if there.get(place, 0) != 0}


def told_of(stage, there, numbers, depth):
    if stage[0] == "ranked":
        return sorted(numbers)[stage[3]]
    s = sum([weight * number for weight, number in zip(there.values(), numbers)])
    told = (2 * s + stage[3]) // (2 * stage[3]) + stage[4]
    return 0 if told < 0 else depth if told > depth else told


def by_search(stage, depth):
    """The places that count, all numbers being tried at all places."""
    there = places_of(stage)
    found = []
    for at, place in enumerate(there):
        for others in itertools.product(range(depth + 1), repeat=len(there) - 1):
            if len({told_of(stage, there, (*others[:at], number, *others[at:]), depth)
                    for number in range(depth + 1)}) > 1:
                found.append(place)
                break
    return found


class Counts(unittest.TestCase):
    def shows(self, stage, place, depth):
        """Fails but where the two pictures are as told, and the stage tells them apart at (0, 0)."""
        pictures = keeps(self, lambda *things: shown(*things, depth=depth), stage, place)
        self.assertIs(type(pictures), tuple)
        one, other = pictures
        for picture in pictures:
            self.assertIs(type(picture), Picture)
            self.assertEqual((picture.window(), len(picture.planes), picture.depth), ((-4, -4, 9, 9), 1, depth))
        unlike = [cell for cell in ALL_PLACES if one.at(*cell) != other.at(*cell)]
        self.assertEqual(unlike, [place])
        told = []
        for picture in pictures:
            net = net_of(a=source(picture, border=0), b=(stage[0], "a", *stage[2:]))
            told.append(net.whole("b", (0, 0, 1, 1)).at(0, 0))
        self.assertNotEqual(told[0], told[1], (stage, place, depth))

    def counts(self, stage, depth, wanted):
        self.assertEqual(keeps(self, lambda stage: counting(stage, depth=depth), stage), wanted)
        for place in wanted:
            self.shows(stage, place, depth)
        for place in ALL_PLACES:
            if place not in wanted:
                refuses(self, NoPlace, lambda *things: shown(*things, depth=depth), stage, place)

    def test_all_that_is_read(self):
        self.counts(filtered("a", ((1, 2, 1),), by=4), 1, [(-1, 0), (0, 0), (1, 0)])
        self.counts(filtered("a", ((1, 0, -1), (0, 0, 2))), 9, [(-1, -1), (1, -1), (1, 0)])
        self.counts(filtered("a", ((1,) * 5,) * 5, by=25), 120, inside((-2, -2, 5, 5)))

    def test_fewer_than_are_read(self):
        # Only 10 comes to a half of 20 or more; 1 never makes the odds.
        self.counts(filtered("a", ((1, 10),), by=20), 1, [(0, 0)])
        self.counts(filtered("a", ((1, 9),), by=20), 1, [(-1, 0), (0, 0)])
        self.counts(filtered("a", ((1, 8),), by=20), 1, [])
        self.counts(filtered("a", ((1, 2, 4),), by=100000), 255, [])

    def test_none_where_all_is_held(self):
        self.counts(filtered("a", ((1, 1),), plus=9), 9, [])
        self.counts(filtered("a", ((1, 1),), plus=8), 9, [(-1, 0), (0, 0)])
        self.counts(filtered("a", ((1, 1),), plus=-18), 9, [])
        self.counts(filtered("a", ((1, 1),), plus=-17), 9, [(-1, 0), (0, 0)])
        self.counts(filtered("a", ((-1, -1),)), 9, [])
        self.counts(filtered("a", ((0, 0),), plus=3), 9, [])
        self.counts(filtered("a", ((1,),), plus=65535), 9, [])

    def test_ranks_count_at_every_place(self):
        chance = random.Random(91)
        for depth in (1, 2, 255, 65535):
            for _ in range(5):
                form = some_form(chance)
                rising = sorted(form, key=lambda place: place[::-1])
                for rank in range(len(form)):
                    self.counts(ranked("a", form, rank=rank), depth, rising)
        places = tuple(ALL_PLACES[::3][:25])
        self.counts(ranked("a", places[::-1], rank=24), 1, list(places))

    def test_the_depth_where_left_out(self):
        stage = filtered("a", ((1, 1),), plus=254)
        self.assertEqual(counting(stage), counting(stage, depth=255))
        self.assertEqual(shown(stage, (0, 0)), shown(stage, (0, 0), depth=255))
        self.assertEqual(shown(stage, (0, 0))[0].depth, 255)

    def test_filters_against_a_plain_search(self):
        chance = random.Random(92)
        for _ in range(250):
            depth = chance.choice((1, 1, 2, 3))
            high, wide = chance.randint(1, 3), chance.randint(1, 3)
            weights = [[0] * wide for _ in range(high)]
            for _ in range(chance.randint(0, 4)):
                weights[chance.randrange(high)][chance.randrange(wide)] = chance.choice((-30, -7, -3, -1, 1, 2, 5, 11, 40))
            stage = filtered("a", tuple([tuple(row) for row in weights]), by=chance.choice((1, 2, 3, 10, 24, 60, 100)),
                             plus=chance.choice((-40, -3, -1, 0, 0, 1, 2, 5, 40)))
            self.counts(stage, depth, by_search(stage, depth))

    def test_ranks_against_a_plain_search(self):
        chance = random.Random(93)
        for _ in range(20):
            form = tuple(chance.sample(ALL_PLACES, chance.randint(1, 4)))
            stage, depth = ranked("a", form, rank=chance.randrange(len(form))), chance.choice((1, 2))
            self.counts(stage, depth, by_search(stage, depth))

    def test_whatever_it_is_made_of(self):
        self.assertEqual(counting(filtered("nowhere", ((1,),))), [(0, 0)])

    def test_lists_are_the_askers_own(self):
        stage = ranked("a", ((0, 0), (1, 0)))
        counting(stage).clear()
        self.assertEqual(counting(stage), [(0, 0), (1, 0)])


class Refused(unittest.TestCase):
    def refused(self, error, stage, **named):
        refuses(self, error, lambda stage: counting(stage, **named), stage)
        refuses(self, error, lambda stage: shown(stage, (0, 0), **named), stage)
        refuses(self, error, lambda stage: shown(stage, None, **named), stage)

    def test_no_stage(self):
        for thing in (*OTHER_KINDS, 5, turned("a"), moved("a"), mixed("a", ((1,),)), filtered("A", ((1,),)),
                      ranked("a", ((0, 0),), rank=1), ranked("a", ((5, 0),)), list(filtered("a", ((1,),))),
                      filtered("a", ((1001,),)), source(Picture((((0,),),)))):
            self.refused(NoStage, thing)

    def test_no_divisor(self):
        self.refused(NoDivisor, filtered("a", ((1,),), by=0))

    def test_no_tone(self):
        for depth in (0, -1, 65536, *OTHER_KINDS):
            self.refused(NoTone, filtered("a", ((1,),)), depth=depth)
            self.refused(NoTone, ranked("a", ((0, 0),)), depth=depth)
        with self.assertRaises(NoTone) as caught:
            counting(ranked("a", ((0, 0),)), depth=0)
        self.assertIsNone(caught.exception.cell)

    def test_too_wide(self):
        for weights, depth in ((((1000, -1000), (1000, 1)), 1), (((-1, 1),), 1501), (((1,),), 3001),
                               (((3, -2, 0, 7),), 251), (((1,),), 65535)):
            self.refused(TooWide, filtered("a", weights), depth=depth)
        for weights, depth in ((((1000, -1000), (1000, 0)), 1), (((-1, 1),), 1500), (((1,),), 3000), (((3, -2, 0, 7),), 250)):
            counting(filtered("a", weights), depth=depth)

    def test_ranks_are_never_too_wide(self):
        self.assertEqual(counting(ranked("a", ((0, 0), (1, 1)), rank=1), depth=65535), [(0, 0), (1, 1)])

    def test_no_place(self):
        stage = filtered("a", ((1, 0, 1),))
        for place in ((0, 0), (2, 0), (1, 1), (5, 0), (True, 0), (-1, False), (1,), (1, 0, 0), [1, 0], "ab", 5, *OTHER_KINDS):
            refuses(self, NoPlace, shown, stage, place)
            refuses(self, NoPlace, shown, ranked("a", ((-1, 0), (1, 0))), place)

    def test_in_the_order_told(self):
        self.refused(NoStage, mixed("a", ((1,),), by=0))
        self.refused(NoStage, filtered("a", ((1001,),), by=0))
        self.refused(NoStage, turned("a"), depth=0)
        self.refused(NoDivisor, filtered("a", ((1,),), by=0), depth=0)
        self.refused(NoDivisor, filtered("a", ((1000,),), by=0), depth=65535)
        self.refused(NoTone, filtered("a", ((1000, 1000),)), depth=65536)
        refuses(self, TooWide, shown, filtered("a", ((1000, 1000),)), (4, 4))

    def test_the_depth_has_no_place(self):
        with self.assertRaises(TypeError):
            counting(ranked("a", ((0, 0),)), 5)
        with self.assertRaises(TypeError):
            shown(ranked("a", ((0, 0),)), (0, 0), 5)


if __name__ == "__main__":
    unittest.main()
