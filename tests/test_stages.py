"""The interface of stages: the makers, and what a stage is made of."""

import unittest

from helper import OTHER_KINDS, keeps
from pixelstages import stages
from pixelstages.pictures import Picture

# Of each maker: the things by place, then the things by name with their defaults, all in order.
MAKERS = {
    "source": (("picture",), (("border", "near"),)),
    "framed": (("of", "window"), (("border", "near"),)),
    "moved": (("of",), (("right", 0), ("down", 0))),
    "flipped": (("of",), (("across", True),)),
    "turned": (("of",), ()),
    "curved": (("of", "table"), (("depth", None),)),
    "lifted": (("of", "steps"), ()),
    "unlifted": (("of", "steps"), ()),
    "mixed": (("of", "rows"), (("by", 1), ("plus", 0))),
    "filtered": (("of", "weights"), (("by", 1), ("plus", 0))),
    "ranked": (("of", "form"), (("rank", 0),)),
    "reduced": (("of",), (("wide", 2), ("high", 2))),
    "enlarged": (("of",), (("wide", 2), ("high", 2))),
    "near_band": (("of",), (("across", True),)),
    "far_band": (("of",), (("across", True),)),
    "paired": (("near", "far"), (("across", True),)),
    "summed": (("of", "window"), ()),
    "unsummed": (("of",), ()),
    "levelled": (("of", "window"), ()),
    "met": (("of", "other"), (("how", "least"),)),
    "chosen": (("of", "other", "mask"), ()),
    "own": (("of", "tell"), ()),
}


class Makers(unittest.TestCase):
    def same(self, stage, kind, things):
        """Fails but where the stage is the tuple of the kind and these very things."""
        self.assertIs(type(stage), tuple)
        self.assertEqual(stage[0], kind)
        self.assertEqual(len(stage), 1 + len(things))
        for thing, told in zip(things, stage[1:]):
            self.assertIs(told, thing)

    def test_borders(self):
        self.assertEqual((stages.NEAR, stages.WRAPPED, stages.MIRRORED), ("near", "wrapped", "mirrored"))

    def test_there_are_twenty_two(self):
        self.assertEqual(len(MAKERS), 22)

    def test_defaults(self):
        for kind, (places, named) in MAKERS.items():
            things = [["thing", k] for k in range(len(places))]
            stage = keeps(self, getattr(stages, kind), *things)
            self.same(stage, kind, things + [default for _, default in named])

    def test_all_handed_in_the_named_in_either_order(self):
        for kind, (places, named) in MAKERS.items():
            things = [["thing", k] for k in range(len(places))]
            more = {name: {"named": name} for name, _ in named}
            turned_about = {name: more[name] for name in reversed(more)}
            for way in (more, turned_about):
                stage = keeps(self, getattr(stages, kind), *things, **way)
                self.same(stage, kind, things + list(more.values()))

    def test_one_of_two_named(self):
        for kind, (places, named) in MAKERS.items():
            if len(named) == 2:
                (first, first_default), (second, second_default) = named
                maker = getattr(stages, kind)
                self.assertEqual(maker("a", *["b"] * (len(places) - 1), **{first: 7})[-2:], (7, second_default))
                self.assertEqual(maker("a", *["b"] * (len(places) - 1), **{second: 7})[-2:], (first_default, 7))

    def test_unlooked_at(self):
        things = (*OTHER_KINDS, 5, -5, Picture((((0,),),)), len, lambda numbers: 0)
        for kind, (places, named) in MAKERS.items():
            for thing in things:
                more = {name: thing for name, _ in named}
                stage = keeps(self, getattr(stages, kind), *[thing] * len(places), **more)
                self.same(stage, kind, [thing] * (len(places) + len(named)))

    def test_the_named_have_no_place(self):
        for kind, (places, named) in MAKERS.items():
            if named:
                with self.assertRaises(TypeError):
                    getattr(stages, kind)(*["a"] * (len(places) + 1))

    def test_plain_examples(self):
        self.assertEqual(stages.moved("in", down=3), ("moved", "in", 0, 3))
        self.assertEqual(stages.curved("in", (1, 0), depth=1), ("curved", "in", (1, 0), 1))
        self.assertEqual(stages.met("a", "b", how="gap"), ("met", "a", "b", "gap"))


class MadeOf(unittest.TestCase):
    def test_the_names_of_others(self):
        for kind, (places, _) in MAKERS.items():
            stage = getattr(stages, kind)(*["abc"[k] for k in range(len(places))])
            many = {"source": 0, "paired": 2, "met": 2, "chosen": 3}.get(kind, 1)
            self.assertEqual(keeps(self, stages.made_of, stage), list("abc"[:many]), kind)


if __name__ == "__main__":
    unittest.main()
