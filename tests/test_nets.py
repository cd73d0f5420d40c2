"""Promise 17: nets, what they refuse and in which order; 2 and 3 as far as they speak of nets."""

import random
import unittest
from unittest import mock

from helper import OTHER_KINDS, keeps, net_of, refuses, some_net
from pixelstages.errors import Missing, NoDivisor, NoName, NoShape, NoStage, NoWindow, Ring, TooMany, Used
from pixelstages.nets import Net
from pixelstages.pictures import Picture
from pixelstages.stages import (
    chosen, curved, enlarged, far_band, filtered, flipped, framed, levelled, lifted, met, mixed, moved, near_band, own,
    paired, ranked, reduced, source, summed, turned, unlifted, unsummed)

PICTURE = Picture((((0, 1), (2, 3)), ((3, 2), (1, 0))), depth=3)
DEEPER = Picture((((0, 1), (2, 3)), ((3, 2), (1, 0))), depth=4)
NARROWER = Picture((((0, 1), (2, 3)),), depth=3)
LETTERS = "abcdefghijklmnopqrstuvwxyz"
WINDOW = (0, 0, 2, 2)


def state(net):
    """All that a net tells of itself."""
    return (net.names(), [net.stage(name) for name in net.names()], [net.shape(name) for name in net.names()], len(net),
            [net.whole(name, (-1, -1, 4, 4)) for name in net.names()])


def full(many=24):
    """A net of so many stages, all of shape (2, 3), each made of the one ahead."""
    net = net_of(a=source(PICTURE))
    for ahead, name in zip(LETTERS, LETTERS[1:many]):
        net.put(name, turned(ahead))
    return net


class Puts(unittest.TestCase):
    def test_an_empty_net(self):
        net = Net()
        self.assertEqual((net.names(), len(net)), ([], 0))

    def test_put_tells_nothing_and_keeps_what_is_handed_in(self):
        net = Net()
        for name, stage in (("a", source(PICTURE, border=3)), ("abcdefgh", turned("a")), ("b", met("a", "abcdefgh"))):
            self.assertIsNone(keeps(self, net.put, name, stage))
            self.assertEqual(net.stage(name), stage)
        self.assertEqual((net.names(), len(net)), (["a", "abcdefgh", "b"], 3))

    def test_shapes(self):
        net = net_of(a=source(PICTURE), b=mixed("a", ((1, 1),) * 4), c=mixed("b", ((0, 1, 0, 2),)), d=own("a", max),
                     e=curved("a", (0, 9, 1, 0), depth=9), f=curved("a", (0, 3, 1, 0)), g=turned("e"),
                     h=chosen("a", "f", "e"), i=met("f", "a"), j=source(Picture((((0,),),), depth=65535)))
        told = {name: net.shape(name) for name in net.names()}
        self.assertEqual(told, {"a": (2, 3), "b": (4, 3), "c": (1, 3), "d": (1, 3), "e": (2, 9), "f": (2, 3),
                                "g": (2, 9), "h": (2, 3), "i": (2, 3), "j": (1, 65535)})

    def test_all_kinds_are_taken(self):
        steps = ((0, (0, 1), 0),)
        net = net_of(
            src=source(PICTURE), frame=framed("src", WINDOW, border=3), mov=moved("src"), flip=flipped("src"),
            turn=turned("src"), curve=curved("src", (0, 1, 2, 3)), lift=lifted("src", steps),
            unlift=unlifted("lift", steps), mix=mixed("src", ((1, 1), (0, 1))), filt=filtered("src", ((1,),)),
            rank=ranked("src", ((0, 0),)), reduce=reduced("src"), large=enlarged("src"), near=near_band("src"),
            far=far_band("src"), pair=paired("near", "far"), summ=summed("src", WINDOW), unsum=unsummed("src"),
            level=levelled("src", WINDOW), meet=met("src", "frame"), chose=chosen("src", "mov", "mix"),
            mine=own("src", max))
        self.assertEqual(len(net), 22)

    def test_lists_that_are_told_are_the_askers_own(self):
        net = full(3)
        names = net.names()
        names.append("x")
        names[0] = "y"
        self.assertEqual(net.names(), ["a", "b", "c"])

    def test_stage_and_shape_of_what_is_missing(self):
        net = full(2)
        for name in ("c", "aa", "A", "a ", *[thing for thing in OTHER_KINDS if thing != "a"], 0, ["a"], ("a",), {"a": 1},
                     ((((((((((1,),),),),),),),),),)):
            for act in (net.stage, net.shape, net.drop):
                self.assertEqual(repr(refuses(self, Missing, act, name).name), repr(name))
        self.assertEqual(net.names(), ["a", "b"])

    def test_no_methods_of_a_net_stand_elsewhere(self):
        for name in ("put", "drop", "shape", "names", "stage", "whole", "__len__", "__eq__"):
            self.assertIn(name, vars(Net))


class InThePlaceOfAnother(unittest.TestCase):
    def test_the_place_stays(self):
        net = full(4)
        net.put("b", flipped("a"))
        self.assertEqual(net.names(), ["a", "b", "c", "d"])
        self.assertEqual(net.stage("b"), flipped("a"))
        net.put("a", source(DEEPER))
        self.assertEqual(net.names(), ["a", "b", "c", "d"])
        self.assertEqual([net.shape(name) for name in net.names()], [(2, 4)] * 4)

    def test_dropped_and_put_again_it_is_the_last(self):
        net = net_of(a=source(PICTURE), b=turned("a"), c=turned("a"))
        net.drop("b")
        net.put("b", turned("a"))
        self.assertEqual(net.names(), ["a", "c", "b"])

    def test_made_of_one_that_was_put_later(self):
        net = net_of(a=source(PICTURE), b=turned("a"), c=flipped("a"))
        net.put("b", moved("c", right=1))
        self.assertEqual(net.names(), ["a", "b", "c"])
        self.assertEqual(net.whole("b", (1, 0, 1, 1)).planes, (((0,),), ((3,),)))
        net.put("a", source(DEEPER, border=4))
        self.assertEqual(net.shape("b"), (2, 4))

    def test_what_is_told_behind_it_is_another(self):
        net = full(4)
        ahead = net.whole("d", WINDOW)
        net.put("a", source(Picture((((3, 1), (2, 3)), ((3, 2), (1, 0))), depth=3)))
        self.assertNotEqual(net.whole("d", WINDOW), ahead)

    def test_what_stands_behind_must_still_fit(self):
        for behind in (framed("b", WINDOW, border=3), curved("b", (0, 1, 2, 3)), lifted("b", ((0, (0, 1), 0),)),
                       unlifted("b", ((0, (0, 1), 0),)), mixed("b", ((1, 1),)), met("b", "a"), paired("a", "b"),
                       chosen("b", "a", "a"), chosen("a", "b", "a")):
            net = net_of(a=source(PICTURE), b=turned("a"), c=behind, low=source(Picture((((0, 1),),), depth=1)))
            ahead = state(net)
            refuses(self, NoShape, net.put, "b", turned("low"))
            self.assertEqual(state(net), ahead)
            net.put("b", flipped("a"))

    def test_also_through_others(self):
        net = net_of(a=source(PICTURE), b=turned("a"), c=flipped("b"), d=moved("c"), e=mixed("d", ((1, 1),)))
        ahead = state(net)
        refuses(self, NoShape, net.put, "a", source(NARROWER))
        self.assertEqual(state(net), ahead)
        net.drop("e")
        net.put("a", source(NARROWER))
        self.assertEqual(net.shape("d"), (1, 3))

    def test_what_does_not_look_at_a_shape_may_get_another(self):
        net = net_of(a=source(PICTURE), b=chosen("a", "a", "a"), c=own("b", max), d=met("c", "c"), e=levelled("d", WINDOW))
        net.put("a", source(Picture((((9,),),) * 4, depth=9)))
        self.assertEqual([net.shape(name) for name in net.names()], [(4, 9), (4, 9), (1, 9), (1, 9), (1, 9)])

    def test_rings(self):
        for stage in (turned("d"), turned("b"), met("a", "c"), met("d", "a"), chosen("a", "a", "c"), paired("a", "b")):
            net = full(4)
            ahead = state(net)
            refuses(self, Ring, net.put, "b", stage)
            self.assertEqual(state(net), ahead)
        net = full(4)
        refuses(self, Ring, net.put, "a", turned("d"))
        refuses(self, Ring, net.put, "new", turned("new"))
        net.put("d", turned("a"))
        net.put("b", turned("d"))
        refuses(self, Ring, net.put, "d", turned("c"))


class Many(unittest.TestCase):
    def test_the_24th_and_the_25th(self):
        net = full(23)
        net.put("x", turned("w"))
        self.assertEqual(len(net), 24)
        ahead = state(net)
        refuses(self, TooMany, net.put, "y", turned("x"))
        refuses(self, TooMany, net.put, "y", source(PICTURE))
        self.assertEqual(state(net), ahead)
        net.put("x", flipped("w"))
        net.drop("x")
        net.put("y", turned("w"))
        self.assertEqual(len(net), 24)


class Names(unittest.TestCase):
    def test_no_name(self):
        net = full(2)
        ahead = state(net)
        for name in ("", "A", "aB", "abcdefghi", "a1", "a b", "a\n", "_", *[one for one in OTHER_KINDS if one != "a"], 5,
                     ("a",), ["a"], {"a": "a"}):
            refuses(self, NoName, net.put, name, turned("a"))
        self.assertEqual(state(net), ahead)

    def test_just_names(self):
        net = net_of(z=source(PICTURE), abcdefgh=turned("z"))
        self.assertEqual(net.names(), ["z", "abcdefgh"])


class NoShapes(unittest.TestCase):
    def setUp(self):
        self.net = net_of(a=source(PICTURE), deep=source(DEEPER), one=source(NARROWER), two=source(PICTURE))

    def fits(self, *stages):
        for stage in stages:
            self.net.put("x", stage)
            self.assertEqual(self.net.stage("x"), stage)
            self.net.drop("x")

    def fails(self, *stages):
        ahead = state(self.net)
        for stage in stages:
            refuses(self, NoShape, self.net.put, "x", stage)
        self.assertEqual(state(self.net), ahead)

    def test_borders(self):
        self.fits(source(PICTURE, border=3), source(PICTURE, border=0), framed("a", WINDOW, border=3),
                  framed("deep", WINDOW, border=4), source(DEEPER, border=4))
        self.fails(source(PICTURE, border=4), source(PICTURE, border=65535), framed("a", WINDOW, border=4),
                   framed("deep", WINDOW, border=5), framed("a", WINDOW, border=65535))

    def test_tables(self):
        self.fits(curved("a", (3, 3, 3, 3)), curved("a", (9, 0, 9, 9), depth=9), curved("deep", (0,) * 5),
                  curved("a", (1,) * 4, depth=1))
        self.fails(curved("a", (0, 1, 2)), curved("a", (0,) * 5), curved("a", (0, 1, 2, 4)), curved("deep", (0,) * 4),
                   curved("a", (0,) * 5, depth=9), curved("a", (0,) * 3, depth=9), curved("a", (65535, 0, 0, 0)))

    def test_the_longest_table(self):
        self.net.put("far", source(Picture((((65535,),),), depth=65535)))
        self.fits(curved("far", (1,) * 65536, depth=1), curved("far", (65535,) * 65536))
        self.fails(curved("far", (1,) * 65535, depth=1))

    def test_steps_and_rows(self):
        for maker in (lifted, unlifted):
            self.fits(maker("a", ((1, (1, 0), 0),)), maker("one", ((0, (0,), 0),) * 8))
            self.fails(maker("a", ((0, (0,), 0),)), maker("a", ((0, (0, 1, 1), 0),)), maker("one", ((0, (0, 1), 0),)))
        self.fits(mixed("a", ((1, 1),)), mixed("one", ((1,),) * 4))
        self.fails(mixed("a", ((1,),)), mixed("a", ((1, 1, 1),)), mixed("one", ((1, 1),)))

    def test_two_of_one_shape(self):
        self.fits(met("a", "two"), paired("a", "two"), chosen("a", "two", "one"), chosen("a", "two", "deep"), met("a", "a"))
        self.fails(met("a", "deep"), met("one", "a"), paired("a", "deep"), paired("a", "one"), chosen("a", "deep", "a"),
                   chosen("one", "a", "a"))

    def test_what_has_no_shape_to_fit(self):
        for of in ("a", "deep", "one"):
            self.fits(moved(of), flipped(of), turned(of), filtered(of, ((1, 1),) * 3), ranked(of, ((0, 0), (4, 4))),
                      reduced(of), enlarged(of), near_band(of), far_band(of), summed(of, WINDOW), unsummed(of),
                      levelled(of, WINDOW), own(of, max), filtered(of, ((1,),), plus=65535))


class InOrder(unittest.TestCase):
    """Of several refusals that are due the one told first goes first."""

    def first(self, error, net, name, stage):
        ahead = state(net)
        caught = refuses(self, error, net.put, name, stage)
        self.assertEqual(state(net), ahead)
        return caught

    def test_no_name_ahead_of_all(self):
        for stage in (None, filtered("a", ((1,),), by=0), turned("none"), turned("Bad"), turned("b"),
                      mixed("a", ((1,),)), turned("a")):
            self.first(NoName, full(), "B", stage)

    def test_no_stage(self):
        self.first(NoStage, full(3), "d", filtered("a", ((1, 1001),), by=0))
        self.first(NoStage, full(3), "d", moved("none", right=501))
        self.first(NoStage, full(3), "b", moved("b", right=501))
        self.first(NoStage, full(3), "b", moved("c", right=501))
        self.first(NoStage, full(3), "d", mixed("a", ((1,),), plus=65536))
        self.first(NoStage, full(), "y", moved("a", right=501))
        self.first(NoStage, full(), "y", None)

    def test_no_divisor(self):
        self.first(NoDivisor, full(3), "d", filtered("none", ((1,),), by=0))
        self.first(NoDivisor, full(3), "b", filtered("b", ((1,),), by=0))
        self.first(NoDivisor, full(3), "b", filtered("c", ((1,),), by=0))
        self.first(NoDivisor, full(3), "d", mixed("a", ((1,),), by=0))
        self.first(NoDivisor, full(), "y", filtered("a", ((1,),), by=0))

    def test_missing(self):
        self.assertEqual(self.first(Missing, full(3), "b", met("c", "none")).name, "none")
        self.assertEqual(self.first(Missing, full(3), "b", met("none", "b")).name, "none")
        net = full(3)
        net.put("one", source(NARROWER))
        self.assertEqual(self.first(Missing, net, "d", chosen("a", "one", "none")).name, "none")
        self.assertEqual(self.first(Missing, net, "d", mixed("none", ((1,),))).name, "none")
        self.assertEqual(self.first(Missing, full(), "y", turned("none")).name, "none")

    def test_the_first_name_that_is_not_there(self):
        for stage, name in ((chosen("x", "y", "z"), "x"), (chosen("a", "y", "z"), "y"), (chosen("a", "a", "z"), "z"),
                            (met("y", "x"), "y"), (paired("a", "x"), "x")):
            self.assertEqual(self.first(Missing, full(3), "d", stage).name, name)
        # Its own name counts as there, so the next one is the first.
        self.assertEqual(self.first(Missing, full(3), "d", chosen("d", "y", "z")).name, "y")
        self.first(Ring, full(3), "d", chosen("d", "a", "b"))

    def test_ring(self):
        net = full(3)
        net.put("one", source(NARROWER))
        self.first(Ring, net, "b", met("c", "one"))
        self.first(Ring, net, "b", mixed("b", ((1,),)))
        self.first(Ring, net, "new", met("one", "new"))
        self.first(Ring, full(), "y", turned("y"))
        self.first(Ring, full(), "y", mixed("y", ((1,),)))

    def test_no_shape_ahead_of_too_many(self):
        self.first(NoShape, full(), "y", mixed("a", ((1,),)))
        self.first(NoShape, full(), "y", source(PICTURE, border=4))


class Drops(unittest.TestCase):
    def test_drop(self):
        net = full(3)
        self.assertIsNone(keeps(self, net.drop, "c"))
        self.assertEqual((net.names(), len(net)), (["a", "b"], 2))
        refuses(self, Missing, net.drop, "c")
        refuses(self, Missing, net.stage, "c")
        refuses(self, Missing, net.shape, "c")
        refuses(self, Missing, net.whole, "c", WINDOW)
        net.drop("b")
        net.drop("a")
        self.assertEqual((net.names(), len(net)), ([], 0))

    def test_used(self):
        net = net_of(a=source(PICTURE), b=source(PICTURE), c=source(PICTURE), d=source(PICTURE), x=chosen("a", "b", "c"))
        ahead = state(net)
        for name in "abc":
            refuses(self, Used, net.drop, name)
        self.assertEqual(state(net), ahead)
        net.drop("d")
        net.drop("x")
        for name in "abc":
            net.drop(name)
        self.assertEqual(len(net), 0)


class Equality(unittest.TestCase):
    def same(self, one, other, is_same):
        self.assertIs(one == other, is_same)
        self.assertIs(other == one, is_same)
        self.assertIs(one != other, not is_same)

    def test_equal(self):
        self.same(Net(), Net(), True)
        self.same(full(), full(), True)
        self.same(net_of(a=source(PICTURE), b=own("a", max)), net_of(a=source(PICTURE), b=own("a", max)), True)
        again = Picture(PICTURE.planes, depth=3)
        self.same(net_of(a=source(PICTURE)), net_of(a=source(again)), True)

    def test_by_whichever_way_it_was_made(self):
        net = full(3)
        net.put("b", flipped("a"))
        net.put("d", turned("a"))
        net.drop("d")
        net.put("b", turned("a"))
        self.same(net, full(3), True)

    def test_unlike(self):
        net = net_of(a=source(PICTURE), b=turned("a"), c=turned("a"))
        self.same(net, net_of(a=source(PICTURE), c=turned("a"), b=turned("a")), False)
        self.same(net, net_of(a=source(PICTURE), b=turned("a")), False)
        self.same(net, net_of(a=source(PICTURE), b=turned("a"), d=turned("a")), False)
        self.same(net, net_of(a=source(PICTURE), b=turned("a"), c=turned("b")), False)
        self.same(net, net_of(a=source(DEEPER), b=turned("a"), c=turned("a")), False)
        self.same(net, net_of(a=source(PICTURE, border=0), b=turned("a"), c=turned("a")), False)
        self.same(net, Net(), False)

    def test_own_ones_by_the_same_def(self):
        one, other = (lambda numbers: 0), (lambda numbers: 0)
        self.same(net_of(a=source(PICTURE), b=own("a", one)), net_of(a=source(PICTURE), b=own("a", one)), True)
        self.same(net_of(a=source(PICTURE), b=own("a", one)), net_of(a=source(PICTURE), b=own("a", other)), False)

    def test_nothing_else(self):
        for thing in (*OTHER_KINDS, 0, 1, PICTURE, object()):
            self.same(Net(), thing, False)
            self.same(full(1), thing, False)
        self.assertIs(Net() == mock.ANY, False)

    def test_each_by_itself(self):
        net, other = full(3), full(3)
        net.put("d", turned("a"))
        self.same(net, other, False)
        self.assertEqual(other.names(), ["a", "b", "c"])


class AnyNet(unittest.TestCase):
    def test_refusals_change_nothing(self):
        chance = random.Random(71)
        wrong = (("A", turned("a")), ("x", None), ("x", filtered("a", ((1,),), by=0)), ("x", turned("none")),
                 ("a", turned("a")), ("x", source(PICTURE, border=4)), ("x", mixed("a", ((1,) * 4,) * 5)))
        for _ in range(20):
            net = some_net(chance, 6)
            ahead = state(net)
            for name, stage in wrong:
                with self.assertRaises((NoName, NoStage, NoDivisor, Missing, Ring, NoShape)):
                    net.put(name, stage)
            for name in net.names():
                if any([name in net.stage(other)[1:4] for other in net.names()]):
                    refuses(self, Used, net.drop, name)
                refuses(self, NoWindow, net.whole, name, (0, 0, 0, 0))
            self.assertEqual(state(net), ahead)


if __name__ == "__main__":
    unittest.main()
