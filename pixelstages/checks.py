"""What is a stage by itself alone, whatever it is made of."""

from pixelstages.errors import NoDivisor, NoStage
from pixelstages.kinds import TESTS
from pixelstages.pictures import Picture
from pixelstages.stages import THINGS


def is_thing(word, thing):
    if word == "picture":
        return isinstance(thing, Picture)
    test = TESTS[word]
    return test(thing)


def go_together(stage):
    """Whether the things of a stage, each right by itself, are right beside each other."""
    if stage[0] == "curved":
        table, depth = stage[2:]
        return depth is None or max(table) <= depth
    if stage[0] == "ranked":
        form, rank = stage[2:]
        return rank < len(form)
    return True


def is_stage(thing):
    """Whether it is a stage by itself alone, a by of 0 let through."""
    if not isinstance(thing, tuple) or len(thing) == 0:
        return False
    kind, things = thing[0], thing[1:]
    if not isinstance(kind, str) or kind not in THINGS:
        return False
    words = THINGS[kind]
    if len(things) != len(words):
        return False
    return all([is_thing(word, one) for word, one in zip(words, things)]) and go_together(thing)


def is_by_nought(stage):
    """Whether the by of a stage is 0."""
    return any([word == "by" and thing == 0 for word, thing in zip(THINGS[stage[0]], stage[1:])])


def check_stage(thing):
    if not is_stage(thing):
        raise NoStage("no stage by itself alone")
    if is_by_nought(thing):
        raise NoDivisor("a by of 0")
