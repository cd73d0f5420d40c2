"""Promises 24 to 33, one by one: engines, their tiles, what they refuse and in which order; views; own defs that call."""

import copy
import itertools
import random
import time
import unittest

from helper import (
    MORE_NAMES_KINDS, ONE_NAME_KINDS, OTHER_KINDS, Words, inside, keeps, net_of, parts_spoilt, refuses, some_border, some_net,
    some_picture, some_stage, some_window)
from pixelstages.engines import ROOM, SIDE, Engine, View
from pixelstages.errors import (
    Busy, Closed, Missing, NoDivisor, NoName, NoNumber, NoShape, NoSource, NoStage, NoTone, NoWindow, Ring, TooMany,
    TooMuch, Used)
from pixelstages.nets import Net
from pixelstages.pictures import Picture
from pixelstages.stages import (
    chosen, curved, enlarged, filtered, flipped, framed, levelled, met, mixed, moved, own, ranked, source, summed, turned,
    unsummed)

PICTURE = Picture((((0, 1), (2, 3)), ((3, 2), (1, 0))), depth=3)
PLAIN = Picture((tuple([tuple([(3 * x + 5 * y) % 10 for x in range(12)]) for y in range(12)]),), depth=9)
NO_NAMES = ("x", "A", *[thing for thing in OTHER_KINDS if thing != "a"], 0, ["a"], ("a",), {"a": "a"})
NO_WINDOWS = ((0, 0, 0, 1), (0, 0, 1, 49), (-1001, 0, 1, 1), (0, 1001, 1, 1), (0, 0, 1), [0, 0, 1, 1], (0, 0, True, 1),
              5, "abcd", *OTHER_KINDS)
NO_MOST = (-1, -1000, *[thing for thing in OTHER_KINDS if thing is not None])
WINDOW = (0, 0, 2, 2)


def two_high(**named):
    """An engine of a source and two stages one on another, both of one tile for the window (0, 0, 4, 4)."""
    net = net_of(a=source(PLAIN, border=0), b=moved("a", right=1), c=met("b", "b", how="greatest"))
    return Engine(net, **{"side": 4, **named})


def state(engine):
    """All that an engine tells of itself, but for what it would reckon."""
    return engine.net(), engine.work(), engine.kept(), engine.log(), engine.is_busy()


class Made(unittest.TestCase):
    def test_the_values(self):
        self.assertEqual((SIDE, ROOM), (8, 64))

    def test_it_has_the_net_as_it_is_then(self):
        net = net_of(a=source(PICTURE), b=turned("a"))
        ahead = copy.deepcopy(net)
        engine = Engine(net)
        self.assertEqual(net, ahead)
        net.put("c", flipped("a"))
        net.put("b", flipped("a"))
        self.assertEqual(engine.net(), ahead)
        refuses(self, Missing, engine.ask, "c", WINDOW)
        engine.put("d", moved("a"))
        self.assertEqual(net.names(), ["a", "b", "c"])

    def test_what_is_told_is_the_askers_own(self):
        engine = two_high()
        engine.ask("c", (0, 0, 4, 4))
        ahead = state(engine)
        engine.net().put("z", turned("a"))
        for told in (engine.work(), engine.kept(), engine.log(), engine.plan("c", (0, 0, 8, 8))):
            self.assertIs(type(told), list)
            told.clear()
        self.assertEqual(state(engine), ahead)

    def test_sides_and_rooms(self):
        net = net_of(a=source(PICTURE))
        for side, room in ((1, 0), (16, 1000), (8, 64)):
            self.assertIs(type(Engine(net, side=side, room=room)), Engine)
        for thing in (0, 17, -1, 10 ** 9, *OTHER_KINDS):
            refuses(self, NoNumber, lambda thing: Engine(net, side=thing), thing)
        for thing in (-1, 1001, 10 ** 9, *OTHER_KINDS):
            refuses(self, NoNumber, lambda thing: Engine(net, room=thing), thing)
        with self.assertRaises(TypeError):
            Engine(net, 8)

    def test_what_is_left_out(self):
        engine = Engine(net_of(a=source(PLAIN), b=turned("a")))
        engine.ask("b", (0, 0, 8, 8))
        self.assertEqual(engine.work(), [("b", 0, 0)])
        engine.ask("b", (0, 0, 48, 48))
        engine.ask("b", (48, 48, 48, 48))
        self.assertEqual(len(engine.kept()), 64)

    def test_a_new_one(self):
        engine = two_high()
        self.assertEqual((engine.work(), engine.kept(), engine.log(), engine.is_busy()), ([], [], [], False))

    def test_no_methods_stand_elsewhere(self):
        for name in ("ask", "paint", "put", "drop", "net", "plan", "work", "kept", "log", "is_busy", "view"):
            self.assertIn(name, vars(Engine))
        for name in ("ask", "net", "close"):
            self.assertIn(name, vars(View))

    def test_an_engine_of_no_stages(self):
        engine = Engine(Net())
        refuses(self, Missing, engine.ask, "a", WINDOW)
        engine.put("a", source(PICTURE))
        self.assertEqual(engine.ask("a", WINDOW), PICTURE)


class Tiles(unittest.TestCase):
    def test_tiles_below_nought(self):
        engine = Engine(net_of(a=source(PLAIN), b=turned("a")), side=4)
        engine.ask("b", (-1, -5, 2, 2))
        self.assertEqual(engine.work(), [("b", -1, -2), ("b", 0, -2), ("b", -1, -1), ("b", 0, -1)])

    def test_all_cells_of_a_tile_are_reckoned(self):
        """So what is below is used for them all, not for the window alone."""
        engine = Engine(net_of(a=source(PLAIN), b=turned("a"), c=moved("b", right=1)), side=4)
        engine.ask("c", (2, 2, 1, 1))
        self.assertEqual(engine.work(), [("b", -1, 0), ("b", 0, 0), ("c", 0, 0)])

    def test_only_what_is_read_is_used(self):
        net = net_of(a=source(PLAIN), b=turned("a"), c=filtered("b", ((1, 0, 0),)), d=framed("b", (1, 1, 1, 1), border=0),
                     e=mixed("b", ((0,),)), f=summed("b", (2, 2, 3, 3)), g=levelled("b", (9, 9, 1, 1)),
                     h=enlarged("b", wide=8, high=8))
        for name, window, wanted in (
                ("c", (0, 0, 1, 1), [("b", -1, 0), ("b", 0, 0)]), ("d", (0, 0, 1, 1), [("b", 0, 0)]),
                ("d", (9, 9, 1, 1), []), ("e", (0, 0, 1, 1), []), ("f", (2, 2, 1, 1), [("b", 0, 0)]),
                ("f", (0, 4, 1, 1), [("b", 0, 0), ("b", 0, 1)]), ("f", (9, 0, 1, 1), []),
                ("g", (0, 0, 1, 1), [("b", 0, 0), ("b", 2, 2)]), ("h", (-1, 7, 1, 1), [("b", -1, 0)])):
            engine = Engine(net, side=4)
            self.assertEqual(engine.plan(name, window)[:-1], wanted)
            engine.ask(name, window)
            self.assertEqual(engine.work()[:-1], wanted)

    def test_of_a_source_none(self):
        engine = two_high()
        self.assertEqual(engine.ask("a", (0, 0, 12, 12), most=0), PLAIN)
        self.assertEqual((engine.work(), engine.kept(), engine.plan("a", WINDOW)), ([], [], []))
        self.assertEqual(engine.log(), [("begin", "a", 0), ("end", "a", 0)])

    def test_where_a_used_one_is_kept_nothing_below_is_used(self):
        engine = two_high(room=1)
        engine.ask("c", (0, 0, 4, 4))
        self.assertEqual((engine.work(), engine.kept()), ([("b", 0, 0), ("c", 0, 0)], [("c", 0, 0)]))
        engine.ask("c", (1, 1, 1, 1))
        self.assertEqual((engine.work(), engine.kept()), ([], [("c", 0, 0)]))
        self.assertEqual(engine.log()[2:], [("begin", "c", 1), ("end", "c", 0)])

    def test_in_order(self):
        """By levels, in a level by the net's order, in a stage by j, then i."""
        net = net_of(a=source(PLAIN), z=turned("a"), d=flipped("z"), c=met("d", "z"), b=turned("a"), e=chosen("c", "b", "a"))
        engine = Engine(net, side=4, room=1000)
        engine.ask("e", (0, 0, 5, 5))
        square = [(0, 0), (1, 0), (0, 1), (1, 1)]
        wanted = [("z", i, j) for i, j in ((-2, 0), (-1, 0), (0, 0), (1, 0), (-2, 1), (-1, 1), (0, 1), (1, 1))]
        wanted += [(name, i, j) for name in "bdce" for i, j in square]
        self.assertEqual(engine.work(), wanted)
        self.assertEqual(engine.kept(), wanted)

    def test_the_order_of_a_net_whose_places_stayed(self):
        net = net_of(a=source(PLAIN), b=turned("a"), c=turned("a"), d=met("b", "c"))
        net.put("b", flipped("c"))
        engine = Engine(net, side=16)
        engine.ask("d", (0, 0, 1, 1))
        self.assertEqual([name for name, _, _ in engine.work()], ["c", "c", "b", "d"])
        net.put("c", turned("a"))
        net.drop("d")
        net.put("b", turned("a"))
        net.put("d", met("c", "b"))
        engine = Engine(net, side=16)
        engine.ask("d", (0, 0, 1, 1))
        self.assertEqual(engine.work(), [("b", 0, 0), ("c", 0, 0), ("d", 0, 0)])


class Most(unittest.TestCase):
    def test_enough(self):
        for most in (2, 3, 10 ** 9, None):
            engine = two_high()
            self.assertEqual(engine.ask("c", (0, 0, 4, 4), most=most), engine.net().whole("c", (0, 0, 4, 4)))
            engine.ask("c", (0, 0, 4, 4), most=0)

    def test_too_few(self):
        for most, done in ((0, []), (1, [("b", 0, 0)])):
            engine = two_high()
            error = refuses(self, TooMuch, lambda *things: engine.ask(*things, most=most), "c", (0, 0, 4, 4))
            self.assertEqual((error.reckoned, error.left), (most, 2 - most))
            self.assertEqual((engine.work(), engine.kept()), (done, done))
            self.assertEqual(engine.log(), [("begin", "c", 2), ("refused", "c", most)])
            self.assertEqual(engine.plan("c", (0, 0, 4, 4)), [("b", 0, 0), ("c", 0, 0)][most:])
            self.assertEqual(engine.ask("c", (0, 0, 4, 4), most=2 - most), engine.net().whole("c", (0, 0, 4, 4)))

    def test_a_fault_ahead_of_too_much(self):
        def never(numbers):
            raise KeyError("no")
        engine = Engine(net_of(a=source(PLAIN), b=own("a", never), c=turned("b")))
        refuses(self, TooMuch, lambda: engine.ask("c", WINDOW, most=0))
        refuses(self, KeyError, lambda: engine.ask("c", WINDOW, most=1))

    def test_step_by_step(self):
        net = some_net(random.Random(201), 6)
        engine, name = Engine(net, side=3, room=1000), net.names()[-1]
        many = len(engine.plan(name, (0, 0, 5, 5)))
        for left in range(many, 1, -1):
            self.assertEqual(refuses(self, TooMuch, lambda: engine.ask(name, (0, 0, 5, 5), most=1)).left, left - 1)
        self.assertEqual(engine.ask(name, (0, 0, 5, 5), most=1), net.whole(name, (0, 0, 5, 5)))

    def test_most_has_no_place(self):
        with self.assertRaises(TypeError):
            two_high().ask("c", WINDOW, 5)
        with self.assertRaises(TypeError):
            two_high().view().ask("c", WINDOW, 5)


class Room(unittest.TestCase):
    def setUp(self):
        self.net = net_of(a=source(PLAIN), b=turned("a"), c=flipped("a"))

    def test_none(self):
        engine = Engine(self.net, side=4, room=0)
        for _ in range(2):
            self.assertEqual(engine.ask("b", (0, 0, 8, 8)), self.net.whole("b", (0, 0, 8, 8)))
            self.assertEqual((len(engine.work()), engine.kept()), (4, []))

    def test_too_small_for_one_asking(self):
        engine = Engine(self.net, side=4, room=3)
        engine.ask("b", (0, 0, 8, 8))
        self.assertEqual(engine.kept(), [("b", 1, 0), ("b", 0, 1), ("b", 1, 1)])
        engine.ask("b", (0, 0, 8, 8))
        self.assertEqual(engine.work(), [("b", 0, 0)])
        self.assertEqual(engine.kept(), [("b", 1, 0), ("b", 0, 1), ("b", 1, 1)])

    def test_the_oldest_goes(self):
        engine = Engine(self.net, side=4, room=3)
        for x in (0, 4, 8):
            engine.ask("b", (x, 0, 1, 1))
        engine.ask("b", (0, 0, 1, 1))
        engine.ask("c", (0, 0, 1, 1))
        self.assertEqual(engine.kept(), [("b", 0, 0), ("b", 2, 0), ("c", 0, 0)])
        engine.ask("c", (4, 0, 1, 1))
        self.assertEqual(engine.kept(), [("b", 0, 0), ("c", 0, 0), ("c", 1, 0)])

    def test_plan_makes_nothing_newer(self):
        engine = Engine(self.net, side=4, room=2)
        for x in (0, 4):
            engine.ask("b", (x, 0, 1, 1))
        self.assertEqual(engine.plan("b", (0, 0, 1, 1)), [])
        engine.ask("b", (8, 0, 1, 1))
        self.assertEqual(engine.kept(), [("b", 1, 0), ("b", 2, 0)])

    def test_those_of_a_view_are_counted_too(self):
        engine = Engine(self.net, side=4, room=2)
        view = engine.view()
        view.ask("b", (0, 0, 4, 4))
        engine.paint("a", [(0, 0, 0, 9)])
        self.assertEqual(engine.kept(), [])
        engine.ask("b", (0, 0, 4, 4))
        self.assertEqual(engine.kept(), [("b", 0, 0)])
        view.ask("b", (0, 0, 4, 4), most=0)
        engine.ask("b", (4, 0, 4, 4))
        # The one of the state of now was the oldest.
        self.assertEqual(engine.kept(), [("b", 1, 0)])
        view.ask("b", (0, 0, 4, 4), most=0)

    def test_refused_in_its_middle_it_is_kept_within_the_room(self):
        engine = Engine(self.net, side=4, room=1)
        refuses(self, TooMuch, lambda: engine.ask("b", (0, 0, 8, 8), most=3))
        self.assertEqual((len(engine.work()), engine.kept()), (3, [("b", 0, 1)]))


class Changes(unittest.TestCase):
    def setUp(self):
        self.net = net_of(a=source(PLAIN, border=0), o=source(PLAIN, border=0), b=moved("a", right=1), c=turned("b"),
                          d=turned("o"))
        self.engine = Engine(self.net, side=4, room=1000)
        for name in "bcd":
            self.engine.ask(name, (0, 0, 12, 12))
        self.all = self.engine.kept()

    def gone(self):
        kept = self.engine.kept()
        return [place for place in self.all if place not in kept]

    def test_a_painting_reaches_what_reads_it(self):
        self.engine.paint("a", [(5, 2, 0, 9)])
        self.assertEqual(self.gone(), [("b", 1, 0), ("c", 0, 1)])
        self.assertEqual(self.engine.ask("c", (0, 0, 12, 12)), self.engine.net().whole("c", (0, 0, 12, 12)))
        self.assertEqual(self.engine.work(), [("b", 1, 0), ("c", 0, 1)])

    def test_just_the_cells_that_are_other_ones_behind_the_whole_list(self):
        self.engine.paint("a", [(1, 1, 0, 0), (9, 9, 0, 0), (1, 1, 0, 8)])
        self.assertEqual(PLAIN.at(1, 1), 8)
        self.assertEqual(self.gone(), [("b", 2, 2), ("c", 2, 2)])

    def test_painted_as_it_was_is_no_change(self):
        for dots in ([], [(1, 1, 0, 8)], [(1, 1, 0, 0), (1, 1, 0, 8)]):
            self.engine.paint("a", dots)
            self.assertEqual(self.gone(), [])
            self.assertEqual(self.engine.net(), self.net)

    def test_painted_back_it_serves_no_more(self):
        view = self.engine.view()
        self.engine.paint("a", [(1, 1, 0, 0)])
        self.engine.paint("a", [(1, 1, 0, 8)])
        self.assertEqual(self.engine.net(), self.net)
        self.assertEqual(self.gone(), [("b", 0, 0), ("c", 0, 0)])
        view.ask("c", (0, 0, 12, 12), most=0)
        self.engine.ask("b", (0, 0, 4, 4))
        self.assertEqual(self.engine.work(), [("b", 0, 0)])

    def test_put_as_it_was_is_no_change(self):
        again = Picture(PLAIN.planes, depth=9)
        for name, stage in (("b", moved("a", right=1)), ("a", source(again, border=0)), ("c", turned("b"))):
            self.engine.put(name, stage)
            self.assertEqual(self.gone(), [])

    def test_own_ones_by_the_same_def(self):
        one, other = (lambda numbers: 0), (lambda numbers: 0)
        self.engine.put("e", own("d", one))
        self.engine.ask("e", (0, 0, 1, 1))
        self.assertIn(("e", 0, 0), self.engine.kept())
        self.engine.put("e", own("d", one))
        self.assertIn(("e", 0, 0), self.engine.kept())
        self.engine.put("e", own("d", other))
        self.assertEqual(self.engine.kept(), self.all)

    def test_a_put_reaches_all_that_is_made_of_it(self):
        self.engine.put("b", moved("a", right=1, down=1))
        self.assertEqual({name for name, _, _ in self.gone()}, {"b", "c"})
        self.assertEqual([place for place in self.all if place[0] == "d"], self.engine.kept())
        self.engine.put("b", moved("a", right=1))
        self.assertEqual({name for name, _, _ in self.engine.kept()}, {"d"})

    def test_a_put_of_a_source_reaches_what_reads_no_cell_of_it(self):
        self.engine.put("e", mixed("a", ((0,),), plus=3))
        self.engine.ask("e", (0, 0, 1, 1))
        self.engine.paint("a", [(0, 0, 0, 1)])
        self.assertIn(("e", 0, 0), self.engine.kept())
        self.engine.put("a", source(PLAIN, border=1))
        self.assertNotIn(("e", 0, 0), self.engine.kept())

    def test_a_new_name_reaches_no_other(self):
        self.engine.put("e", turned("c"))
        self.assertEqual(self.gone(), [])

    def test_a_drop_reaches_its_own_alone(self):
        self.engine.drop("c")
        self.assertEqual({name for name, _, _ in self.gone()}, {"c"})
        self.engine.put("c", turned("b"))
        self.assertEqual({name for name, _, _ in self.gone()}, {"c"})
        self.assertEqual(self.engine.net().names(), ["a", "o", "b", "d", "c"])

    def test_a_tile_of_an_older_state_serves_now(self):
        view = self.engine.view()
        self.engine.paint("a", [(1, 1, 0, 0)])
        self.engine.paint("o", [(9, 9, 0, 0)])
        engine = self.engine
        view.ask("b", (20, 20, 4, 4))
        self.assertEqual(engine.work(), [("b", 5, 5)])
        engine.ask("b", (20, 20, 4, 4), most=0)
        engine.ask("b", (24, 20, 4, 4))
        view.ask("b", (24, 20, 4, 4), most=0)

    def test_a_tile_serves_a_view_of_a_state_in_between(self):
        engine = self.engine
        first = engine.view()
        engine.paint("a", [(9, 9, 0, 0)])
        middle = engine.view()
        engine.paint("a", [(1, 1, 0, 0)])
        engine.ask("b", (8, 8, 4, 4))
        self.assertEqual(engine.work(), [("b", 2, 2)])
        middle.ask("b", (8, 8, 4, 4), most=0)
        first.ask("b", (8, 8, 4, 4), most=0)
        middle.ask("b", (0, 0, 4, 4), most=0)
        for view, number in ((first, PLAIN.at(8, 8)), (middle, PLAIN.at(8, 8))):
            self.assertEqual(view.ask("b", (9, 8, 1, 1)).at(9, 8), number)
        self.assertEqual([asker.ask("b", (10, 9, 1, 1)).at(10, 9) for asker in (first, middle, engine)],
                         [PLAIN.at(9, 9), 0, 0])

    def test_borders_bring_a_change_far_away(self):
        for border, left in (("near", []), ("wrapped", []), ("mirrored", []), (5, [("b", -3, 0)])):
            engine = Engine(net_of(a=source(PLAIN, border=border), b=turned("a")), room=1000)
            engine.ask("b", (-24, 0, 8, 8))
            engine.ask("b", (0, 0, 4, 4))
            engine.paint("a", [(0, 0, 0, 7)])
            self.assertEqual(engine.kept(), left, border)


class EveryKind(unittest.TestCase):
    """Of each kind of stage a painting reaches just the tiles to which 20 tells that it comes."""

    def test_one_cell_painted(self):
        chance = random.Random(205)
        for kind, _ in itertools.product((*ONE_NAME_KINDS, *MORE_NAMES_KINDS), range(12)):
            planes, depth = chance.randint(1, 2), chance.choice((1, 9))
            net = Net()
            for name in "abm":
                net.put(name, source(some_picture(chance, planes, depth), border=some_border(chance, depth)))
            net.put("top", some_stage(chance, kind, (planes, depth), "a", ("b", "m")))
            engine = Engine(net, side=chance.choice((1, 2, 3)), room=1000)
            engine.ask("top", (-4, -4, 9, 9))
            name = chance.choice("aaabm")
            x, y = chance.choice(inside(net.stage(name)[1].window()))
            plane = chance.randrange(planes)
            number = net.stage(name)[1].at(x, y, plane=plane)
            words, done = Words(net), {}
            wanted = [(top, i, j) for top, i, j in engine.kept()
                      if not any([words.comes(name, (x, y), "top", column, row, done) for column, row in
                                  inside((i * engine.side, j * engine.side, engine.side, engine.side))])]
            engine.paint(name, [(x, y, plane, depth - number if 2 * number != depth else 0)])
            self.assertEqual(engine.kept(), wanted, net.stage("top"))

    def test_levels_reach_beyond_their_window(self):
        engine = Engine(net_of(a=source(PLAIN, border=0), b=levelled("a", (2, 2, 2, 2))), side=2)
        engine.ask("b", (6, 6, 4, 2))
        engine.paint("a", [(8, 7, 0, 0)])
        self.assertEqual(engine.kept(), [("b", 3, 3)])
        engine.paint("a", [(3, 3, 0, 0)])
        self.assertEqual(engine.kept(), [])


class Paints(unittest.TestCase):
    def setUp(self):
        self.engine = Engine(net_of(a=source(Picture(PICTURE.planes, left=-1, up=5, depth=3), border=2), b=turned("a")))

    def refused(self, error, *things):
        ahead = state(self.engine)
        caught = refuses(self, error, self.engine.paint, *things)
        self.assertEqual(state(self.engine), ahead)
        return caught

    def test_cells_and_planes(self):
        self.assertIsNone(keeps(self, self.engine.paint, "a", [(-1, 5, 0, 3), (0, 6, 1, 2), (-1, 5, 1, 0), (0, 6, 1, 1)]))
        self.assertEqual(self.engine.net().stage("a"),
                         source(Picture((((3, 1), (2, 3)), ((0, 2), (1, 1))), left=-1, up=5, depth=3), border=2))
        self.assertEqual(self.engine.ask("b", (5, -1, 2, 2)).planes, (((3, 2), (1, 3)), ((0, 1), (2, 1))))

    def test_the_list_is_kept_as_a_copy(self):
        dots = [(-1, 5, 0, 3)]
        self.engine.paint("a", dots)
        dots[0] = (-1, 5, 0, 1)
        self.assertEqual(self.engine.ask("a", (-1, 5, 1, 1)).at(-1, 5), 3)

    def test_missing_and_no_source(self):
        for name in NO_NAMES:
            self.assertEqual(repr(self.refused(Missing, name, []).name), repr(name))
        self.refused(NoSource, "b", [])

    def test_what_is_no_list(self):
        for thing in [one for one in OTHER_KINDS if not isinstance(one, list)] + [((-1, 5, 0, 0),), 5]:
            self.refused(NoWindow, "a", thing)

    def test_what_is_no_dot(self):
        for dot in ((-1, 5, 0), (-1, 5, 0, 0, 0), [-1, 5, 0, 0], (-2, 5, 0, 0), (1, 5, 0, 0), (-1, 4, 0, 0), (-1, 7, 0, 0),
                    (-1, 5, 2, 0), (-1, 5, -1, 0), (10 ** 9, 5, 0, 0), *OTHER_KINDS):
            self.refused(NoWindow, "a", [dot])
            self.refused(NoWindow, "a", [(-1, 5, 0, 1), dot])
        for number in (-1, 4, 10 ** 9, *OTHER_KINDS):
            self.assertIsNone(self.refused(NoTone, "a", [(-1, 5, 0, number)]).cell)

    def test_each_part_spoilt(self):
        for dots in parts_spoilt(((0, 5, 0, 0), (-1, 6, 1, 3)), OTHER_KINDS):
            ahead = state(self.engine)
            with self.assertRaises((NoWindow, NoTone)):
                keeps(self, self.engine.paint, "a", list(dots))
            self.assertEqual(state(self.engine), ahead)

    def test_the_first_one_that_is_none(self):
        self.refused(NoTone, "a", [(-1, 5, 0, 1), (-1, 5, 0, 4), (9, 9, 0, 0)])
        self.refused(NoWindow, "a", [(-1, 5, 0, 1), (9, 9, 0, 0), (-1, 5, 0, 4)])
        self.refused(NoWindow, "a", [(9, 5, 0, 4)])
        self.refused(NoWindow, "a", [(-1, 5, 2, 4)])
        self.refused(NoWindow, "a", [(-1, 5, None, None)])

    def test_in_the_order_told(self):
        self.refused(Missing, "x", None)
        self.refused(Missing, "x", [(9, 9, 9, 9)])
        self.refused(NoSource, "b", None)
        self.refused(NoSource, "b", [(9, 9, 9, 9)])

    def test_the_greatest_numbers(self):
        engine = Engine(net_of(a=source(Picture((((0, 0),),), depth=65535))))
        engine.paint("a", [(0, 0, 0, 65535)])
        self.assertEqual(engine.ask("a", (0, 0, 2, 1)).planes, (((65535, 0),),))
        refuses(self, NoTone, engine.paint, "a", [(0, 0, 0, 65536)])


class Refused(unittest.TestCase):
    """What is refused ahead of an asking changes nothing."""

    def setUp(self):
        self.engine = two_high()
        self.engine.ask("c", (0, 0, 4, 4))
        self.view = self.engine.view()

    def refused(self, error, act, *things, **named):
        ahead = state(self.engine)
        caught = refuses(self, error, act, *things, **named)
        self.assertEqual(state(self.engine), ahead)
        return caught

    def test_missing(self):
        for name, act in itertools.product(NO_NAMES, (self.engine.ask, self.engine.plan, self.view.ask)):
            self.assertEqual(repr(self.refused(Missing, act, name, WINDOW).name), repr(name))

    def test_no_window(self):
        for window, act in itertools.product(NO_WINDOWS, (self.engine.ask, self.engine.plan, self.view.ask)):
            self.refused(NoWindow, act, "c", window)
            self.refused(NoWindow, act, "a", window)

    def test_no_number(self):
        for most, asker in itertools.product(NO_MOST, (self.engine, self.view)):
            self.refused(NoNumber, asker.ask, "c", WINDOW, most=most)
            self.refused(NoNumber, asker.ask, "a", WINDOW, most=most)

    def test_in_the_order_told(self):
        for asker in (self.engine, self.view):
            self.refused(Missing, asker.ask, "x", (0, 0, 0, 0))
            self.refused(Missing, asker.ask, "x", WINDOW, most=-1)
            self.refused(NoWindow, asker.ask, "c", (0, 0, 0, 0), most=-1)
        self.refused(Missing, self.engine.plan, "x", None)
        engine = Engine(net_of(a=source(PLAIN), b=own("a", lambda numbers: 10)))
        refuses(self, NoNumber, engine.ask, "b", WINDOW, most=-1)
        refuses(self, NoWindow, engine.ask, "b", None)
        refuses(self, NoNumber, lambda: Engine(net_of(a=source(PLAIN)), side=0, room=-1))

    def test_puts_and_drops_as_the_nets(self):
        wrong = ((NoName, "A", turned("a")), (NoStage, "x", None), (NoStage, "x", filtered("a", (True, (0, 0)))),
                 (NoDivisor, "x", filtered("a", ((1,),), by=0)), (Missing, "x", turned("none")), (Ring, "a", turned("c")),
                 (Ring, "x", turned("x")), (NoShape, "x", mixed("a", ((1, 1),))), (NoShape, "x", source(PLAIN, border=10)),
                 (NoName, "A", None), (NoStage, "x", filtered("none", ((1001,),), by=0)),
                 (NoDivisor, "x", filtered("none", ((1,),), by=0)), (Missing, "x", met("x", "none")))
        for error, name, stage in wrong:
            self.refused(error, self.engine.put, name, stage)
        for name in NO_NAMES:
            self.refused(Missing, self.engine.drop, name)
        self.refused(Used, self.engine.drop, "a")
        self.refused(Used, self.engine.drop, "b")
        for at in range(21):
            self.engine.put("n" + "abcdefghijklmnopqrstuvwxyz"[at], turned("a"))
        self.refused(TooMany, self.engine.put, "x", turned("a"))
        self.refused(NoShape, self.engine.put, "x", mixed("a", ((1, 1),)))
        self.assertEqual(len(self.engine.net()), 24)

    def test_closed(self):
        self.assertIsNone(self.view.close())
        for act in (self.view.close, self.view.net, lambda: self.view.ask("c", WINDOW), lambda: self.view.ask("x", None),
                    lambda: self.view.ask("c", WINDOW, most=-1)):
            self.refused(Closed, act)


class Views(unittest.TestCase):
    def test_what_was_so(self):
        engine = two_high()
        wanted = engine.ask("c", (0, 0, 6, 6))
        view = engine.view()
        self.assertIs(type(view), View)
        then = engine.net()
        engine.paint("a", [(x, y, 0, 9) for x, y in inside((0, 0, 4, 4))])
        engine.put("c", moved("b", down=3))
        engine.drop("c")
        engine.put("a", source(PICTURE))
        self.assertEqual(view.ask("c", (0, 0, 6, 6)), wanted)
        self.assertEqual(view.net(), then)
        view.net().drop("c")
        self.assertEqual(view.net(), then)
        refuses(self, Missing, engine.ask, "c", WINDOW)

    def test_work_and_log_are_the_engines(self):
        engine = two_high(side=2)
        view = engine.view()
        engine.paint("a", [(0, 0, 0, 9)])
        view.ask("b", (0, 0, 2, 2))
        self.assertEqual((engine.work(), engine.kept()), ([("b", 0, 0)], []))
        self.assertEqual(engine.log(), [("begin", "b", 1), ("end", "b", 1)])
        error = refuses(self, TooMuch, lambda: view.ask("c", (0, 0, 2, 2), most=0))
        self.assertEqual((error.reckoned, error.left), (0, 1))
        self.assertEqual(engine.log()[2:], [("begin", "c", 2), ("refused", "c", 0)])

    def test_closing_throws_out_what_served_it_alone(self):
        engine = two_high(side=2, room=3)
        first, again = engine.view(), engine.view()
        first.ask("b", (0, 0, 4, 2))
        engine.paint("a", [(0, 0, 0, 9)])
        self.assertEqual(engine.kept(), [("b", 1, 0)])
        first.close()
        again.ask("b", (0, 0, 4, 2), most=0)
        engine.ask("b", (0, 0, 2, 2))
        self.assertEqual(engine.kept(), [("b", 0, 0), ("b", 1, 0)])
        again.close()
        # Three were kept, two are left: one more has room.
        engine.ask("b", (0, 2, 2, 2))
        self.assertEqual(engine.kept(), [("b", 0, 0), ("b", 1, 0), ("b", 0, 1)])

    def test_thirty_views_and_two_hundred_changes(self):
        engine = Engine(net_of(a=source(PLAIN), b=turned("a")), side=4, room=1000)
        views = []
        for at in range(200):
            engine.paint("a", [(at % 12, at // 12 % 12, 0, (PLAIN.at(at % 12, at // 12 % 12) + 1 + at // 144) % 10)])
            if at % 7 == 0:
                views.append((engine.view(), engine.net()))
            engine.ask("b", (0, 0, 12, 12))
        self.assertEqual(len(views), 29)
        for view, net in views:
            self.assertEqual(view.ask("b", (0, 0, 12, 12)), net.whole("b", (0, 0, 12, 12)))
            self.assertEqual(view.net(), net)
        for view, _ in views:
            view.close()
        self.assertEqual(len(engine.kept()), 9)


class OwnDefs(unittest.TestCase):
    def engine_of(self, tell, **named):
        net = net_of(a=source(PLAIN, border=0), b=moved("a"), c=own("b", tell), d=turned("c"))
        return Engine(net, **{"side": 4, **named})

    def test_no_number(self):
        for thing in (-1, 10, True, None, "1", (1,), [1]):
            engine = self.engine_of(lambda numbers: thing if numbers == (PLAIN.at(2, 1),) else 0)
            wrong = [cell for cell in inside((0, 0, 4, 4)) if PLAIN.at(*cell) == PLAIN.at(2, 1)]
            self.assertIn(refuses(self, NoTone, engine.ask, "d", (0, 0, 4, 4)).cell, wrong)
            self.assertEqual((engine.work(), engine.kept(), engine.is_busy()), ([("b", 0, 0)], [("b", 0, 0)], False))
            self.assertEqual(engine.log(), [("begin", "d", 3), ("refused", "d", 1)])

    def test_beyond_the_window(self):
        engine = self.engine_of(lambda numbers: 10 if numbers == (PLAIN.at(3, 3),) else 0)
        refuses(self, NoTone, engine.ask, "c", (0, 0, 1, 1))
        self.assertEqual(engine.net().whole("c", (0, 0, 1, 1)).planes, (((0,),),))

    def test_errors_come_out_as_they_are(self):
        class Odd(BaseException):
            pass
        for error in (KeyError("k"), ValueError("v"), RuntimeError(), ZeroDivisionError(), StopIteration(), Odd(),
                      Busy("mine"), NoTone((7, 7)), TooMuch(1, 2), KeyboardInterrupt()):
            def tell(numbers):
                raise error
            engine = self.engine_of(tell)
            engine.ask("b", (0, 0, 4, 4))
            with self.assertRaises(type(error)) as caught:
                engine.ask("d", (0, 0, 4, 8))
            self.assertIs(caught.exception, error)
            self.assertEqual(state(engine)[1:4], ([("b", 1, 0)], [("b", 0, 0), ("b", 1, 0)],
                                                  [("begin", "b", 1), ("end", "b", 1), ("begin", "d", 6), ("refused", "d", 1)]))
            self.assertIs(engine.is_busy(), False)
            self.assertEqual(engine.ask("b", (0, 0, 8, 4), most=0), engine.net().whole("b", (0, 0, 8, 4)))

    def test_nothing_half(self):
        """Refused at the last cell of the second tile of three."""
        asked = []

        def tell(numbers):
            asked.append(numbers)
            if len(asked) == 2 * 16:
                raise KeyError
            return 0
        engine = self.engine_of(tell)
        refuses(self, KeyError, engine.ask, "c", (0, 0, 12, 1))
        self.assertEqual(engine.work(), [("b", 0, 0), ("b", 1, 0), ("b", 2, 0), ("c", 0, 0)])
        self.assertEqual(engine.kept(), engine.work())
        engine.ask("c", (0, 0, 12, 1))
        self.assertEqual(engine.work(), [("c", 1, 0), ("c", 2, 0)])

    def test_used_ones_become_the_newest_though_refused(self):
        engine = self.engine_of(lambda numbers: 10, room=2)
        for x in (0, 4):
            engine.ask("b", (x, 0, 1, 1))
        refuses(self, NoTone, engine.ask, "c", (0, 0, 1, 1))
        engine.ask("b", (8, 0, 1, 1))
        self.assertEqual(engine.kept(), [("b", 0, 0), ("b", 2, 0)])

    def calling(self, told):
        """An engine, an open view and a closed one, with a def that calls all of them when it is first asked."""
        def tell(numbers):
            if not told:
                told.append(state(engine))
                self.assertEqual(view.net(), engine.net())
                self.assertRaises(Closed, ended.net)
                for act in (lambda: engine.ask("a", WINDOW), lambda: engine.ask("x", None), lambda: engine.plan("b", WINDOW),
                            lambda: engine.plan("x", None), lambda: engine.paint("a", [(0, 0, 0, 1)]),
                            lambda: engine.paint("x", None), lambda: engine.put("z", turned("a")),
                            lambda: engine.put("A", None), lambda: engine.drop("d"), lambda: engine.drop("x"), engine.view,
                            lambda: view.ask("b", WINDOW), lambda: view.ask("x", None), view.close, ended.close,
                            lambda: ended.ask("b", WINDOW), lambda: engine.ask("b", WINDOW, most=-1)):
                    refuses(self, Busy, act)
                told.append(state(engine))
            return 5
        engine = self.engine_of(tell)
        view, ended = engine.view(), engine.view()
        ended.close()
        return engine, view

    def test_a_def_that_calls_is_refused_and_changes_nothing(self):
        for which in (0, 1):
            told = []
            engine, view = self.calling(told)
            engine.ask("b", (0, 0, 4, 4))
            ahead = state(engine)
            self.assertEqual((engine, view)[which].ask("c", (0, 0, 8, 4)).planes, (((5,) * 8,) * 4,))
            # As ahead but for the begin, and so still behind all the calls.
            self.assertEqual(told, [(*ahead[:3], [*ahead[3], ("begin", "c", 4)], True)] * 2)
            self.assertEqual(engine.work(), [("b", 1, 0), ("c", 0, 0), ("c", 1, 0)])
            self.assertEqual(engine.log(), [*ahead[3], ("begin", "c", 4), ("end", "c", 3)])
            self.assertEqual((engine.net(), engine.is_busy()), (ahead[0], False))
            self.assertEqual(view.ask("c", (0, 0, 8, 4), most=0).planes, (((5,) * 8,) * 4,))

    def test_a_def_that_lets_busy_come_out(self):
        def tell(numbers):
            return engine.ask("a", WINDOW).at(0, 0)
        engine = self.engine_of(tell)
        refuses(self, Busy, engine.ask, "d", (0, 0, 4, 4))
        self.assertEqual(engine.log(), [("begin", "d", 3), ("refused", "d", 1)])
        self.assertEqual((engine.is_busy(), engine.work(), engine.kept()), (False, [("b", 0, 0)], [("b", 0, 0)]))
        engine.put("c", own("b", max))
        self.assertEqual(engine.ask("d", (0, 0, 4, 4)), engine.net().whole("d", (0, 0, 4, 4)))

    def test_a_def_may_ask_another_engine(self):
        other = two_high()

        def tell(numbers):
            return other.ask("b", (0, 0, 4, 4)).at(1, 1)
        engine = self.engine_of(tell)
        self.assertEqual(engine.ask("c", (0, 0, 1, 1)).at(0, 0), PLAIN.at(0, 1))
        self.assertIs(other.is_busy(), False)

    def test_a_def_may_look_at_the_net(self):
        def tell(numbers):
            return len(engine.net())
        engine = self.engine_of(tell)
        self.assertEqual(engine.ask("c", (0, 0, 1, 1)).at(0, 0), 4)

    def test_faults_of_a_view(self):
        engine = self.engine_of(lambda numbers: 10)
        view = engine.view()
        engine.put("c", own("b", max))
        refuses(self, NoTone, view.ask, "c", (0, 0, 4, 4))
        self.assertEqual(engine.log(), [("begin", "c", 2), ("refused", "c", 1)])
        # What it reckoned ahead of the fault serves the state of now, too.
        self.assertEqual(engine.kept(), [("b", 0, 0)])
        view.close()
        self.assertEqual(engine.kept(), [("b", 0, 0)])

    def test_a_change_behind_a_fault(self):
        """What is due behind a refused asking is done ahead of the next change."""
        engine = self.engine_of(lambda numbers: 10, room=2)
        refuses(self, NoTone, engine.ask, "c", (0, 0, 12, 4))
        engine.paint("a", [(5, 0, 0, 0)])
        self.assertEqual(engine.kept(), [("b", 2, 0)])


class AnySide(unittest.TestCase):
    """Promise 4: whatever the side and the room, an answer is what the formulas tell."""

    def test_all_sides(self):
        chance = random.Random(202)
        for side in range(1, 17):
            for room in (0, 1, 7, 1000):
                net = some_net(chance, 6)
                engine = Engine(net, side=side, room=room)
                for _ in range(6):
                    name, window = chance.choice(net.names()), some_window(chance, most=8)
                    self.assertEqual(engine.ask(name, window), net.whole(name, window))

    def test_behind_changes(self):
        chance = random.Random(203)
        for side in (1, 3, 8, 13, 16):
            net = some_net(chance, 8, kinds=("filtered", "met", "moved", "flipped", "turned", "ranked", "summed", "framed",
                                             "near_band", "enlarged", "reduced", "unsummed", "lifted"))
            engine = Engine(net, side=side, room=chance.choice((0, 5, 64, 1000)))
            views = []
            for at in range(40):
                name = chance.choice("ab")
                picture = engine.net().stage(name)[1]
                dots = [(x, y, 0, chance.randint(0, picture.depth))
                        for x, y in chance.sample(inside(picture.window()), chance.randint(1, min(3, len(picture))))]
                engine.paint(name, dots)
                if at % 4 == 0:
                    views.append((engine.view(), engine.net()))
                if at % 9 == 8:
                    views.pop(0)[0].close()
                for asker, there in (engine, engine.net()), chance.choice(views):
                    name, window = chance.choice(there.names()), some_window(chance, most=12)
                    self.assertEqual(asker.ask(name, window), there.whole(name, window))

    def test_far_away_and_great(self):
        net = net_of(a=source(PLAIN, border="mirrored"), b=turned("a"), c=unsummed("b"), d=ranked("c", ((0, 0), (4, 4))))
        engine = Engine(net, side=16, room=1000)
        for window in ((-1000, 1000, 48, 48), (1000, -1000, 48, 48), (-24, -24, 48, 48)):
            self.assertEqual(engine.ask("d", window), net.whole("d", window))

    def test_the_cutting_of_what_is_asked(self):
        net = some_net(random.Random(204), 7)
        name = net.names()[-1]
        whole = net.whole(name, (-6, -6, 12, 12))
        for side, step in ((5, 1), (4, 3), (16, 4)):
            engine = Engine(net, side=side, room=4)
            for x, y in itertools.product(range(-6, 6, step), repeat=2):
                part = engine.ask(name, (x, y, step, step))
                for p in range(len(part.planes)):
                    self.assertEqual([part.at(*cell, plane=p) for cell in inside((x, y, step, step))],
                                     [whole.at(*cell, plane=p) for cell in inside((x, y, step, step))])


class ManySteps(unittest.TestCase):
    """Great nets and many tiles, told in few steps."""

    def soon(self, act, seconds):
        start = time.perf_counter()
        told = act()
        # Far less by itself; some more where a machine has other work.
        self.assertLess(time.perf_counter() - start, seconds)
        return told

    def test_filters_one_on_another(self):
        net = net_of(a=source(PLAIN))
        letters = "abcdefghijkl"
        for ahead, name in zip(letters, letters[1:]):
            net.put(name, filtered(ahead, ((1, 1, 1),) * 3, by=9))
        engine = Engine(net, room=1000)
        self.soon(lambda: engine.ask("l", (-16, -16, 32, 32)), 20)
        self.assertEqual(self.soon(lambda: engine.ask("l", (-16, -16, 32, 32), most=0), 5), net.whole("l", (-16, -16, 32, 32)))
        self.soon(lambda: [engine.paint("a", [(at % 12, at // 12, 0, 0), (0, 0, 0, at % 2)]) for at in range(100)], 5)

    def test_levels_and_sums_by_tiles_of_one_cell(self):
        window = (0, 0, 48, 48)
        for maker in (levelled, summed):
            net = net_of(a=source(PLAIN, border="wrapped"), b=turned("a"), c=maker("b", window))
            engine = Engine(net, side=1, room=1000)
            self.assertEqual(self.soon(lambda: engine.ask("c", window), 20), net.whole("c", window))
            self.assertEqual(len(engine.work()), 4608)

    def test_two_met_of_the_same(self):
        net = net_of(a=source(PLAIN))
        letters = "abcdefghijklmnopqrstuvwx"
        for ahead, name in zip(letters, letters[1:]):
            net.put(name, met(ahead, ahead, how="sum"))
        engine = Engine(net, room=1000)
        self.assertEqual(self.soon(lambda: engine.ask("x", (0, 0, 16, 16)), 10), net.whole("x", (0, 0, 16, 16)))
        self.assertEqual(len(engine.work()), 4 * 23)


class Curves(unittest.TestCase):
    def test_what_is_told_of_a_changed_depth(self):
        engine = Engine(net_of(a=source(PLAIN), b=curved("a", tuple(range(10, 20)), depth=300), c=some_stage(
            random.Random(1), "levelled", (1, 300), "b")))
        self.assertEqual(engine.ask("b", WINDOW).depth, 300)
        self.assertEqual(engine.ask("c", WINDOW), engine.net().whole("c", WINDOW))


if __name__ == "__main__":
    unittest.main()
