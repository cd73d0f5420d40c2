"""Nets: stages by names."""

from pixelstages.chains import is_ring, shapes_of, told_numbers
from pixelstages.checks import check_stage
from pixelstages.errors import Missing, NoName, NoWindow, Ring, TooMany, Used
from pixelstages.formulas import picture_of
from pixelstages.geometry import cells_of
from pixelstages.kinds import is_name, is_window
from pixelstages.stages import made_of

MOST_STAGES = 24


class Net:
    """At most 24 stages by names, each made of others that are there.

    The dicts are never changed but put anew, so that whoever took them has the net as it was then.
    """

    def __init__(self):
        self.stages = {}
        self.shapes = {}

    def put(self, name, stage):
        if not is_name(name):
            raise NoName("a name is a text of one to eight small letters")
        check_stage(stage)
        for of in made_of(stage):
            if of != name and of not in self.stages:
                raise Missing(of)
        if is_ring(self.stages, name, stage):
            raise Ring("a stage that would be made of itself")
        stages = {**self.stages, name: stage}
        shapes = shapes_of(stages)
        if len(stages) > MOST_STAGES:
            raise TooMany("a net has at most 24 stages")
        self.stages = stages
        self.shapes = shapes

    def drop(self, name):
        self.check_there(name)
        if any([name in made_of(self.stages[one]) for one in self.stages]):
            raise Used("another stage is made of it")
        self.stages = {one: self.stages[one] for one in self.stages if one != name}
        self.shapes = {one: self.shapes[one] for one in self.shapes if one != name}

    def check_there(self, name):
        # Whatever may be handed in, so that only a name is looked for.
        if not is_name(name) or name not in self.stages:
            raise Missing(name)

    def shape(self, name):
        self.check_there(name)
        return self.shapes[name]

    def names(self):
        return list(self.stages)

    def stage(self, name):
        self.check_there(name)
        return self.stages[name]

    def check_asked(self, name, window):
        self.check_there(name)
        if not is_window(window):
            raise NoWindow("a window is a tuple (left, up, wide, high) within its bounds")

    def whole(self, name, window):
        self.check_asked(name, window)
        numbers = told_numbers(self.stages, self.shapes, name, cells_of(window))
        return picture_of(numbers, self.shapes[name], window)

    def twin(self):
        """A net like this one, which goes its own ways from now on."""
        net = Net()
        net.stages = self.stages
        net.shapes = self.shapes
        return net

    def __len__(self):
        return len(self.stages)

    def __eq__(self, other):
        return isinstance(other, Net) and list(self.stages.items()) == list(other.stages.items())


def net_by(stages):
    """The net of stages by names, a dict, in this order, which some may be made of later ones; refused as put is."""
    if len(stages) > MOST_STAGES:
        raise TooMany("a net has at most 24 stages")
    for name in stages:
        for of in made_of(stages[name]):
            if of not in stages:
                raise Missing(of)
    for name in stages:
        if is_ring(stages, name, stages[name]):
            raise Ring("a stage that would be made of itself")
    net = Net()
    net.stages = {name: stages[name] for name in stages}
    net.shapes = shapes_of(stages)
    return net
