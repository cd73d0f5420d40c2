"""Texts of pictures and nets, written and read."""

from pixelstages.checks import is_by_nought, is_stage
from pixelstages.errors import Missing, NoShape, NoStage, NoText, Ring, TooMany
from pixelstages.kinds import MOST_SIDE, is_depth, is_edge, is_name, is_tone
from pixelstages.nets import net_by
from pixelstages.spelling import made_picture, read_number, read_thing, show_thing
from pixelstages.stages import THINGS

PLANE_END = "-"


def show_picture(picture):
    rows = [f"picture {picture.left} {picture.up} {picture.depth}"]
    for at, plane in enumerate(picture.planes):
        if at > 0:
            rows.append(PLANE_END)
        rows.extend([" ".join([str(number) for number in row]) for row in plane])
    return "\n".join(rows)


def read_by_blanks(row):
    return tuple([read_number(part) for part in row.split(" ")])


def is_head(row):
    """Whether it is the first row of a picture, by itself."""
    word, blank, rest = row.partition(" ")
    numbers = read_by_blanks(rest)
    if word != "picture" or len(numbers) != 3:
        return False
    left, up, depth = numbers
    return is_edge(left) and is_edge(up) and is_depth(depth)


def is_line(row):
    """Whether it is a later row of a picture, by itself."""
    if row == PLANE_END:
        return True
    numbers = read_by_blanks(row)
    return len(numbers) <= MOST_SIDE and all([is_tone(number) for number in numbers])


def planes_of(rows):
    """The planes of the later rows of a picture."""
    planes = [[]]
    for row in rows:
        if row == PLANE_END:
            planes.append([])
        else:
            planes[-1].append(read_by_blanks(row))
    return tuple([tuple(plane) for plane in planes])


def read_picture(text):
    if not isinstance(text, str):
        raise NoText(0)
    rows = text.split("\n")
    for at, row in enumerate(rows):
        if not (is_head(row) if at == 0 else is_line(row)):
            raise NoText(at)
    left, up, depth = read_by_blanks(rows[0])[1:]
    picture = made_picture(planes_of(rows[1:]), left, up, depth)
    if picture is None:
        raise NoText(len(rows))
    return picture


def show_stage(name, stage):
    if stage[0] == "own":
        raise NoStage("own defs can't be written")
    words = [show_thing(word, thing) for word, thing in zip(THINGS[stage[0]], stage[1:])]
    return " ".join(["stage", name, stage[0]] + words)


def show_net(net):
    return "\n".join([show_stage(name, net.stage(name)) for name in net.names()])


def parts_of(kind, words):
    """The words of a stage's things: of a picture's two one is made, with the blank between them."""
    if kind == "source" and len(words) > 1:
        return [" ".join(words[:2])] + words[2:]
    return words


def read_stage(row):
    """A tuple of the name and the stage that a row tells; None where it is none by itself."""
    words = row.split(" ")
    if len(words) < 3 or words[0] != "stage" or not is_name(words[1]):
        return None
    name, kind = words[1:3]
    if kind not in THINGS or kind == "own":
        return None
    parts = parts_of(kind, words[3:])
    if len(parts) != len(THINGS[kind]):
        return None
    stage = (kind,) + tuple([read_thing(word, part) for word, part in zip(THINGS[kind], parts)])
    return None if not is_stage(stage) or is_by_nought(stage) else (name, stage)


def read_net(text):
    if not isinstance(text, str):
        raise NoText(0)
    rows = text.split("\n") if text else []
    stages = {}
    for at, row in enumerate(rows):
        told = read_stage(row)
        if told is None or told[0] in stages:
            raise NoText(at)
        stages[told[0]] = told[1]
    try:
        return net_by(stages)
    except (Missing, Ring, NoShape, TooMany):
        raise NoText(len(rows)) from None
