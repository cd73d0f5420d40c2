"""Promise 17, of a stage by itself alone: what is none, and where only a by of 0 is wrong."""

import itertools
import unittest

from helper import OTHER_KINDS, keeps, parts_spoilt, refuses, spoilt
from pixelstages import stages
from pixelstages.checks import check_stage
from pixelstages.errors import NoDivisor, NoStage
from pixelstages.pictures import Picture

PICTURE = Picture((((0, 1), (2, 3)),), depth=3)
ALL_PLACES = tuple([(dx, dy) for dy in range(-4, 5) for dx in range(-4, 5)])
STEP = (0, (0, 1), 0)

# Of each kind of thing: some that are right, at just the bounds, and some that are wrong by one step.
NAMES = (("a", "z", "abcdefgh"), ("", "abcdefghi", "A", "a1", "a b", "a\n", "-", 0, ("a",), ["a"], {"a": 1}))
WINDOWS = (
    ((0, 0, 1, 1), (-1000, 1000, 48, 48), (1000, -1000, 1, 48)),
    ((-1001, 0, 1, 1), (1001, 0, 1, 1), (0, -1001, 1, 1), (0, 1001, 1, 1), (0, 0, 0, 1), (0, 0, 49, 1), (0, 0, 1, 0),
     (0, 0, 1, 49), (True, 0, 1, 1), (0, False, 1, 1), (0, 0, True, 1), (0, 0, 1, True), [0, 0, 1, 1], (0, 0, 1),
     (0, 0, 1, 1, 1), ("0", 0, 1, 1), (0, 0, None, 1), (0, 0, (1,), 1), "near", 0),
)
BORDERS = (("near", "wrapped", "mirrored", 0, 65535),
           (-1, 65536, "Near", "nearest", "none", "0", "near ", ("near",), ["near"]))
MOVES = ((-500, 500, 0), (-501, 501, "0"))
TRUTHS = ((True, False), (0, 1, 2, "True", "yes"))
BLOCKS = ((1, 8), (0, 9, -1, "2"))
BYS = ((1, 100000), (-1, 100001, "1"))
PLUSES = ((-65535, 65535, 0), (-65536, 65536, "0"))
ROWS_WRONG = (((),), (), 1, ([1],), [(1,)], ((1,), [1]), ((1, 2), (1,)), ((1,), (1, 2)), ((1001,),), ((-1001,),),
              ((True,),), ((False, 1),), (("1",),), ((None,),), (((1,),),), ((1,), 1), (1,))
STEPS_WRONG = (
    STEP, [STEP], (list(STEP),), (STEP, STEP[:2]), ((*STEP, 0),), (STEP,) * 9, (),
    ((0, [0, 1], 0),), ((0, (0, 65), 0),), ((0, (0, -65), 0),), ((0, (0, True), 0),), ((0, (False, 1), 0),),
    ((0, (0, "1"), 0),), ((0, (), 0),), ((0, (0,) * 5, 0),), ((0, 0, 0),), ((0, (0, 1), 9),), ((0, (0, 1), -1),),
    ((0, (0, 1), False),), ((0, (0, 1), None),), ((2, (0, 0), 0),), ((-1, (0, 0), 0),), ((False, (0, 1), 0),),
    ((True, (1, 0), 0),), ((None, (0, 1), 0),), ((0, (1, 0), 0),), ((1, (0, -1), 0),), ((0, (False, 0), 0),),
    (STEP, (0, (0, 1, 1), 0)), (STEP, (0, (0,), 0)), (STEP, STEP, (0, (0, 65), 0)),
)
STEPS = (((STEP,), (STEP,) * 8, ((0, (0,), 8),), ((3, (-64, 64, 1, 0), 8), (0, (0, 0, 0, 64), 0)), ((1, (1, 0), 3),)),
         STEPS_WRONG)
FORMS_WRONG = (
    (), [(0, 0)], ([0, 0],), ((0, 0), (0, 0)), ((0, 0), (1, 0), (0, 0)), ((5, 0),), ((-5, 0),), ((0, 5),), ((0, -5),),
    ((True, 0),), ((0, False),), ((0,),), ((0, 0, 0),), (("0", 0),), ((0, None),), (0, 0), ((0, 0), 0),
    ALL_PLACES[:26], "ab", 0,
)

# Of each kind its things: pairs of (right ones, wrong ones).
THINGS = {
    "source": (((PICTURE, Picture((((0,),),), depth=65535)), (((0, 1), (2, 3)), "picture", (PICTURE,), 0)), BORDERS),
    "framed": (NAMES, WINDOWS, BORDERS),
    "moved": (NAMES, MOVES, MOVES),
    "flipped": (NAMES, TRUTHS),
    "turned": (NAMES,),
    "curved": (NAMES, (((0, 1), (0, 0, 1), (1,) * 65536),
                       ((0,), (0,) * 65537, [0, 1], (0, -1), (0, True), (False, 0), (0, "1"), (0, None), (0, (1,)), 0)),
               ((None, 1, 65535), (0, 65536, -1, "1"))),
    "lifted": (NAMES, STEPS),
    "unlifted": (NAMES, STEPS),
    "mixed": (NAMES, ((((1,),), ((-1000, 1000, 0, 1),) * 4, ((0, 0),) * 3),
                      (*ROWS_WRONG, ((1,),) * 5, ((1,) * 5,))), BYS, PLUSES),
    "filtered": (NAMES, ((((1,),), ((-1000, 1000, 0, 1, 2),) * 5, ((0, 0),) * 3),
                         (*ROWS_WRONG, ((1,),) * 6, ((1,) * 6,))), BYS, PLUSES),
    "ranked": (NAMES, ((((0, 0),), ALL_PLACES[:25], ((4, -4), (-4, 4))), FORMS_WRONG), ((0,), (-1, 25, "0"))),
    "reduced": (NAMES, BLOCKS, BLOCKS),
    "enlarged": (NAMES, BLOCKS, BLOCKS),
    "near_band": (NAMES, TRUTHS),
    "far_band": (NAMES, TRUTHS),
    "paired": (NAMES, NAMES, TRUTHS),
    "summed": (NAMES, WINDOWS),
    "unsummed": (NAMES,),
    "levelled": (NAMES, WINDOWS),
    "met": (NAMES, NAMES, (("least", "greatest", "sum", "gap"), ("", "Least", "most", "sum ", 0, ("least",)))),
    "chosen": (NAMES, NAMES, NAMES),
    "own": (NAMES, ((max, *OTHER_KINDS, 5), ())),
}


def right_stage(kind):
    return (kind, *[right[0] for right, _ in THINGS[kind]])


class Right(unittest.TestCase):
    def holds(self, stage):
        self.assertIsNone(keeps(self, check_stage, stage), repr(stage)[:100])

    def test_every_kind(self):
        self.assertEqual(len(THINGS), 22)
        for kind in THINGS:
            self.holds(right_stage(kind))

    def test_at_just_the_bounds(self):
        for kind, things in THINGS.items():
            for stage in itertools.product((kind,), *[right for right, _ in things]):
                self.holds(stage)

    def test_what_the_makers_tell(self):
        self.holds(stages.source(PICTURE))
        self.holds(stages.curved("in", (0, 1, 2)))
        self.holds(stages.filtered("in", ((1, 2, 1),)))
        self.holds(stages.met("in", "in"))

    def test_numbers_of_a_table_to_a_depth_handed_in(self):
        for depth in (1, 9, 65535):
            self.holds(("curved", "a", (0, depth), depth))
        self.holds(("curved", "a", (65535, 0), None))

    def test_every_rank_of_a_form(self):
        for many in (1, 2, 25):
            for rank in range(many):
                self.holds(("ranked", "a", ALL_PLACES[:many], rank))

    def test_what_only_others_can_judge(self):
        """A border above a picture's depth, a name that isn't there: no matter of the stage alone."""
        self.holds(("source", PICTURE, 65535))
        self.holds(("framed", "nowhere", (0, 0, 1, 1), 65535))

    def test_a_def_is_not_looked_at(self):
        class Touchy:
            def __eq__(self, other):
                raise RuntimeError("looked at")

            def __call__(self, numbers):
                raise RuntimeError("asked")
        self.assertIsNone(check_stage(("own", "a", Touchy())))


class Wrong(unittest.TestCase):
    def fails(self, stage):
        refuses(self, NoStage, check_stage, stage)

    def test_each_thing_spoilt(self):
        for kind, things in THINGS.items():
            stage = right_stage(kind)
            for at, (_, wrong) in enumerate(things, start=1):
                for thing in wrong:
                    self.fails(spoilt(stage, at, thing))

    def test_each_thing_of_another_kind(self):
        for kind, things in THINGS.items():
            for at, (right, _) in enumerate(things, start=1):
                # As 1 is True for Python, what is right is known by how it is written.
                written = [repr(thing) for thing in right]
                for thing in (*OTHER_KINDS, PICTURE, {"a": [(1, {})]}, ((((((((((1,),),),),),),),),),)):
                    if kind != "own" and repr(thing) not in written and not (isinstance(thing, str) and thing == "a"):
                        if not (kind == "source" and at == 1 and isinstance(thing, Picture)):
                            self.fails(spoilt(right_stage(kind), at, thing))
        self.fails(("own", None, max))

    def test_each_part_spoilt_is_a_refusal_of_its_own_or_none(self):
        """No length and no part of a thing is asked ahead of its kind: nothing but NoStage comes out."""
        rows = ((1, 2), (3, 4), (5, 6))
        for stage in (
                ("framed", "a", (0, 0, 1, 1), "near"), ("curved", "a", (0, 1, 2), 2), ("mixed", "a", rows, 1, 0),
                ("filtered", "a", rows, 1, 0), ("filtered", "a", ((1,),), 1, 0), ("ranked", "a", ALL_PLACES[:3], 1),
                ("lifted", "a", (STEP, STEP, STEP)), ("unlifted", "a", (STEP, (1, (3, 0), 8))),
                ("summed", "a", (0, 0, 1, 1)), ("levelled", "a", (0, 0, 1, 1)), ("met", "a", "b", "gap")):
            for once in parts_spoilt(stage, OTHER_KINDS):
                self.refused_or_right(once)
        for stage in (("mixed", "a", rows, 1, 0), ("filtered", "a", rows, 1, 0), ("lifted", "a", (STEP, STEP))):
            for once in parts_spoilt(stage[2], (None, True, (), [0, 0])):
                for twice in parts_spoilt(once, (None, True, (0, 0), {})):
                    self.refused_or_right(spoilt(stage, 2, twice))

    def refused_or_right(self, stage):
        """Some are right though a part was exchanged, as a name for a name."""
        try:
            keeps(self, check_stage, stage)
        except NoStage:
            return
        self.assertTrue(all([isinstance(row, tuple) for row in stage[2]]) or stage[0] not in ("mixed", "filtered"), stage)

    def test_truths_for_numbers(self):
        for kind in ("moved", "reduced", "enlarged"):
            for at, truth in itertools.product((2, 3), (True, False)):
                self.fails(spoilt((kind, "a", 1, 1), at, truth))
        for truth in (True, False):
            self.fails(("source", PICTURE, truth))
            self.fails(("framed", "a", (0, 0, 1, 1), truth))
            self.fails(("curved", "a", (0, 1), truth))
            self.fails(("ranked", "a", ((0, 0), (1, 0)), truth))
            self.fails(("mixed", "a", ((1,),), truth, 0))
            self.fails(("filtered", "a", ((1,),), 1, truth))

    def test_one_thing_less_or_more(self):
        for kind in THINGS:
            stage = right_stage(kind)
            self.fails(stage[:-1])
            self.fails((kind,))
            for more in (None, 0, "a"):
                self.fails((*stage, more))

    def test_a_list_for_the_tuple(self):
        for kind in THINGS:
            self.fails(list(right_stage(kind)))

    def test_kinds_that_are_none(self):
        for kind in ("", "Moved", "mov", "moved ", "stage", *OTHER_KINDS, 5, ("moved",), ["moved"], {"moved": 1}):
            self.fails((kind, "a", 0, 0))
            self.fails((kind, "a"))
            self.fails((kind,))

    def test_what_is_no_tuple_of_a_kind(self):
        for thing in (*OTHER_KINDS, 5, "moved", ("moved",), PICTURE, ((("turned", "a"),),), [("turned", "a")]):
            self.fails(thing)

    def test_numbers_of_a_table_above_a_depth_handed_in(self):
        for depth in (1, 9, 65534):
            self.fails(("curved", "a", (0, depth + 1), depth))
            self.fails(("curved", "a", (depth + 1, 0), depth))
        self.fails(("curved", "a", (0, 65536), None))
        self.fails(("curved", "a", (0, 65536), 65535))

    def test_a_rank_beyond_its_form(self):
        for many in (1, 2, 24):
            self.fails(("ranked", "a", ALL_PLACES[:many], many))
        self.fails(("ranked", "a", ALL_PLACES[:25], 25))

    def test_each_name_of_several(self):
        for stage in (("paired", "a", "b", True), ("met", "a", "b", "gap"), ("chosen", "a", "b", "c")):
            for at in range(1, 4):
                self.fails(spoilt(stage, at, "Big"))


class ByNought(unittest.TestCase):
    def test_alone(self):
        for kind in ("mixed", "filtered"):
            for plus in (-65535, 0, 65535):
                refuses(self, NoDivisor, check_stage, (kind, "a", ((1,),), 0, plus))
        refuses(self, NoDivisor, check_stage, stages.mixed("a", ((0,),), by=0))
        refuses(self, NoDivisor, check_stage, stages.filtered("a", ((0,),), by=0))

    def test_with_another_thing_wrong(self):
        for kind in ("mixed", "filtered"):
            stage = (kind, "a", ((1,),), 0, 0)
            for at, wrong in ((1, "A"), (2, ((1001,),)), (2, ()), (2, ((1,), (1, 2))), (4, 65536), (4, -65536), (4, None),
                              (4, False)):
                refuses(self, NoStage, check_stage, spoilt(stage, at, wrong))
            refuses(self, NoStage, check_stage, (*stage, 0))
            refuses(self, NoStage, check_stage, stage[:-1])

    def test_what_is_no_0(self):
        for kind in ("mixed", "filtered"):
            for by in (False, None, "0", -1, (), [], {}):
                refuses(self, NoStage, check_stage, (kind, "a", ((1,),), by, 0))

    def test_a_0_elsewhere_is_no_by(self):
        for stage in (("moved", "a", 0, 0), ("ranked", "a", ((0, 0),), 0), ("filtered", "a", ((0,),), 1, 0)):
            self.assertIsNone(check_stage(stage))
        for stage in (("reduced", "a", 0, 1), ("enlarged", "a", 1, 0), ("curved", "a", (0, 0), 0)):
            refuses(self, NoStage, check_stage, stage)


if __name__ == "__main__":
    unittest.main()
