"""What is a stage by itself alone, and whether it fits what it is made of."""

from pixelstages.errors import NoDivisor, NoStage
from pixelstages.kinds import TESTS, is_whole
from pixelstages.pictures import Picture
from pixelstages.stages import THINGS


def is_thing(word, thing):
    if word == "picture":
        return isinstance(thing, Picture)
    test = TESTS[word]
    return test(thing)


def go_together(stage):
    """Whether the things of a stage, each right by itself, are right beside each other."""
    if stage[0] == "curved":
        table, depth = stage[2:]
        return depth is None or max(table) <= depth
    if stage[0] == "ranked":
        form, rank = stage[2:]
        return rank < len(form)
    return True


def is_stage(thing):
    """Whether it is a stage by itself alone, a by of 0 let through."""
    if not isinstance(thing, tuple) or len(thing) == 0:
        return False
    kind, things = thing[0], thing[1:]
    if not isinstance(kind, str) or kind not in THINGS:
        return False
    words = THINGS[kind]
    if len(things) != len(words):
        return False
    return all([is_thing(word, one) for word, one in zip(words, things)]) and go_together(thing)


def is_by_nought(stage):
    """Whether the by of a stage is 0."""
    return any([word == "by" and thing == 0 for word, thing in zip(THINGS[stage[0]], stage[1:])])


def check_stage(thing):
    if not is_stage(thing):
        raise NoStage("no stage by itself alone")
    if is_by_nought(thing):
        raise NoDivisor("a by of 0")


def is_within_depth(border, depth):
    return not is_whole(border) or border <= depth


def table_fits(stage, depth):
    table, new_depth = stage[2:]
    return len(table) == depth + 1 and (new_depth is not None or max(table) <= depth)


def fits(stage, shapes):
    """Whether the lengths and numbers of a stage fit the shapes of what it is made of, told in their order."""
    kind = stage[0]
    if kind == "source":
        return is_within_depth(stage[2], stage[1].depth)
    if kind in ("paired", "met", "chosen"):
        return shapes[0] == shapes[1]
    planes, depth = shapes[0]
    if kind == "framed":
        return is_within_depth(stage[3], depth)
    if kind == "curved":
        return table_fits(stage, depth)
    if kind in ("lifted", "unlifted"):
        return len(stage[2][0][1]) == planes
    if kind == "mixed":
        return len(stage[2][0]) == planes
    return True
