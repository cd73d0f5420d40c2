"""What rounding comes to at most, and how far a change of the numbers can go."""

from pixelstages.colours import held, rounded
from pixelstages.counts import WIDEST
from pixelstages.errors import NoDivisor, NoStage, NoTone, TooWide
from pixelstages.kinds import GREATEST_WEIGHT, MOST_PLACES, are_weights, is_between, is_by, is_depth, is_plus
from pixelstages.pictures import DEPTH
from pixelstages.weighings import choices_for, layered_sums, matched_layers, numbers_for, width_of

WIDEST_SPREAD = 300


def check_weighing(weights, by, plus, depth):
    if not (are_weights(weights, MOST_PLACES, GREATEST_WEIGHT) and is_by(by) and is_plus(plus)):
        raise NoStage("no weighing")
    if by == 0:
        raise NoDivisor("a by of 0")
    if not is_depth(depth):
        raise NoTone()


def check_width(weights, depth, widest):
    if width_of(weights, depth) > widest:
        raise TooWide("depth times the sum of the weights without signs is too great")


def in_lowest_terms(top, bottom):
    one, other = bottom, top
    while other != 0:
        one, other = other, one % other
    return (top // one, bottom // one)


def error_of(total, by, plus, depth):
    """By times the distance between what is told of a sum and what is exact."""
    return abs(by * rounded(total, by, plus, depth) - held(total + by * plus, by * depth))


def worst(weights, *, by=1, plus=0, depth=DEPTH):
    check_weighing(weights, by, plus, depth)
    check_width(weights, depth, WIDEST)
    layers = layered_sums(weights, depth)
    total = max(list(layers[-1]), key=lambda one: error_of(one, by, plus, depth))
    error = in_lowest_terms(error_of(total, by, plus, depth), by)
    return (error, tuple(numbers_for(weights, layers, total)))


def best_others(weight, far, depth):
    """Of each number the one at most far from it that makes the sum greatest, a list."""
    if weight == 0:
        # One number is as good as all, and there may be very many.
        return [0]
    if weight > 0:
        return [min(number + far, depth) for number in range(depth + 1)]
    return [max(number - far, 0) for number in range(depth + 1)]


def spread(weights, far, *, by=1, plus=0, depth=DEPTH):
    check_weighing(weights, by, plus, depth)
    if not is_between(far, 0, depth):
        raise NoTone()
    check_width(weights, depth, WIDEST_SPREAD)
    others = [best_others(weight, far, depth) for weight in weights]
    pairs = [[(weight * number, weight * other) for number, other in enumerate(line)]
             for weight, line in zip(weights, others)]
    layers = matched_layers(pairs)

    def step_of(total):
        # The two tuples may be exchanged, so the greatest step up is the greatest one.
        return rounded(layers[-1][total][0], by, plus, depth) - rounded(total, by, plus, depth)
    best = max(list(layers[-1]), key=step_of)
    numbers = choices_for(pairs, layers, best)
    return (step_of(best), tuple(numbers), tuple([line[number] for line, number in zip(others, numbers)]))
