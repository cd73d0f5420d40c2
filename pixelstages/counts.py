"""Which places of a filter or a form count, and two pictures that show it."""

from pixelstages.checks import is_by_nought, is_stage
from pixelstages.colours import rounded
from pixelstages.errors import NoDivisor, NoPlace, NoStage, NoTone, TooWide
from pixelstages.filters import weighed_places
from pixelstages.kinds import FARTHEST_PLACE, is_depth, is_place
from pixelstages.pictures import DEPTH, Picture
from pixelstages.weighings import layered_sums, numbers_for, width_of

WIDEST = 3000


def check_counted(stage, depth):
    if not is_stage(stage) or stage[0] not in ("filtered", "ranked"):
        raise NoStage("no stage filtered or ranked")
    if is_by_nought(stage):
        raise NoDivisor("a by of 0")
    if not is_depth(depth):
        raise NoTone()
    if stage[0] == "filtered" and width_of([weight for row in stage[2] for weight in row], depth) > WIDEST:
        raise TooWide("depth times the sum of the weights without signs is above 3000")


def ranked_others(stage, place, depth):
    """Numbers of the other places, a dict, by which the number at the place is the one that is told."""
    form, rank = stage[2:]
    others = [other for other in form if other != place]
    return {other: 0 if at < rank else depth for at, other in enumerate(others)}


def filtered_others(stage, place, depth):
    """Numbers of the other places by which 0 and depth at the place are told unlike, a dict; None where none are so.

    What is told never falls as the sum grows, so no two numbers at the place are told unlike where these aren't.
    """
    weights, by, plus = stage[2:]
    there = {(dx, dy): weight for dx, dy, weight in weighed_places(weights)}
    reach = there[place] * depth
    others = [other for other in there if other != place]
    other_weights = [there[other] for other in others]
    layers = layered_sums(other_weights, depth)
    for total in layers[-1]:
        if rounded(total, by, plus, depth) != rounded(total + reach, by, plus, depth):
            return dict(zip(others, numbers_for(other_weights, layers, total)))
    return None


def others_of(stage, place, depth):
    """Numbers of the other places, a dict, by which a place that is read is seen to count; None where it doesn't."""
    if stage[0] == "ranked":
        return ranked_others(stage, place, depth)
    return filtered_others(stage, place, depth)


def places_read(stage):
    """The list of the places (dx, dy) that the stage reads, rising, dy first."""
    if stage[0] == "ranked":
        rising = sorted([(dy, dx) for dx, dy in stage[2]])
    else:
        rising = sorted([(dy, dx) for dx, dy, weight in weighed_places(stage[2])])
    return [(dx, dy) for dy, dx in rising]


def counting(stage, *, depth=DEPTH):
    check_counted(stage, depth)
    return [place for place in places_read(stage) if others_of(stage, place, depth) is not None]


def picture_by(numbers, depth):
    """The picture about (0, 0) with these numbers, a dict by places, and 0 elsewhere."""
    span = list(range(-FARTHEST_PLACE, FARTHEST_PLACE + 1))
    rows = tuple([tuple([numbers.get((x, y), 0) for x in span]) for y in span])
    return Picture((rows,), left=-FARTHEST_PLACE, up=-FARTHEST_PLACE, depth=depth)


def shown(stage, place, *, depth=DEPTH):
    check_counted(stage, depth)
    if not is_place(place) or place not in places_read(stage):
        raise NoPlace("no place that counts")
    others = others_of(stage, place, depth)
    if others is None:
        raise NoPlace("no place that counts")
    return picture_by({**others, place: 0}, depth), picture_by({**others, place: depth}, depth)
