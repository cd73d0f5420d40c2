"""What tells apart the one of two stages made of the other, and the other made of the one.

It is told by numbers: a dict by cells of tuples, plane by plane, beyond which 0 stands; None where there are none such.
The two are then told unlike at one of the CORNERS.
"""

from pixelstages.colours import lifted_numbers, rounded
from pixelstages.filters import weighed_places
from pixelstages.readers import reader_of
from pixelstages.weighings import choices_for, matched_layers

CORNERS = ((0, 0), (1, 0), (0, 1))


def cell_read(stage, cell):
    """The one cell that a cell of a stage moved, flipped or turned reads."""
    reader = reader_of(stage)
    return reader(cell[0], cell[1])[0]


def moves_apart(one, other, depth):
    """Of two that are moved, flipped or turned; where they are unlike at no corner they are so nowhere."""
    for corner in CORNERS:
        cell = cell_read(other, cell_read(one, corner))
        if cell != cell_read(one, cell_read(other, corner)):
            return {cell: (depth,)}
    return None


def weights_about(stage):
    """The dict of the weights of a stage filtered by their places, noughts left aside."""
    return {(dx, dy): weight for dx, dy, weight in weighed_places(stage[2])}


def are_weights_alike(move, stage):
    """Whether a filter, so flipped or turned, has the same weights at the same places."""
    weights = weights_about(stage)
    return {cell_read(move, place): weights[place] for place in weights} == weights


def filter_apart(move, stage, depth):
    """Of one flipped or turned and one filtered, whose sums are few."""
    weights, (by, plus) = weights_about(stage), stage[3:]
    moved_places = [cell_read(move, place) for place in weights]
    places = list({place: True for place in list(weights) + moved_places})
    # What is told never falls as the sum grows, and both ways about are alike but for a flip or turn of the picture:
    # so of each sum of the one the greatest of the other is enough.
    pairs = [[(weights.get(cell_read(move, place), 0) * number, weights.get(place, 0) * number)
              for number in range(depth + 1)] for place in places]
    layers = matched_layers(pairs)
    for total in layers[-1]:
        if rounded(total, by, plus, depth) != rounded(layers[-1][total][0], by, plus, depth):
            return {place: (number,) for place, number in zip(places, choices_for(pairs, layers, total))}
    return None


def rank_apart(move, stage):
    """Of one flipped or turned and one ranked: just so many ones that one of two unlike forms tells 1."""
    form, rank = stage[2:]
    moved_form = {cell_read(move, place): True for place in form}
    lonely = [place for place in form if place not in moved_form]
    if not lonely:
        return None
    ones = lonely[:1] + [place for place in form if place != lonely[0]]
    return {place: (1,) for place in ones[:len(form) - rank]}


def curves_apart(one, other):
    for number, told in enumerate(one[2]):
        if other[2][told] != one[2][other[2][number]]:
            return {(0, 0): (number,)}
    return None


def falling_pair(table):
    """Two neighbours of which the table tells less of the greater one; None where there are none."""
    for number in range(len(table) - 1):
        if table[number] > table[number + 1]:
            return (number, number + 1)
    return None


def bend_of(table):
    """Three rising numbers, what is told of the middle one lying beyond both others'; None where there are none."""
    steps = [number for number in range(len(table) - 1) if table[number] != table[number + 1]]
    for number in steps:
        is_rising = table[number] < table[number + 1]
        if is_rising != (table[steps[0]] < table[steps[0] + 1]):
            return (steps[0], number, number + 1)
    return None


def spread_over(form, numbers, counts):
    """Numbers for the places of a form, each as often as its count tells."""
    line = [number for number, count in zip(numbers, counts) for at in range(count)]
    return {place: (number,) for place, number in zip(form, line)}


def curve_and_rank_apart(curve, stage):
    """A table that never falls keeps every rank; one that never rises keeps the middle one alone."""
    table, (form, rank) = curve[2], stage[2:]
    many = len(form)
    if 2 * rank == many - 1:
        bend = bend_of(table) if many > 1 else None
        return None if bend is None else spread_over(form, bend, (rank, 1, rank))
    pair = falling_pair(table)
    low = rank + 1 if 2 * rank < many - 1 else rank
    return None if pair is None else spread_over(form, pair, (low, many - low))


def added_places(one, other):
    """The list of the places that come of one of the one form and one of the other, added, each once."""
    return list({(dx + ex, dy + ey): True for dx, dy in one[2] for ex, ey in other[2]})


def ones_in(many):
    """The list of how many bits of 1 each number has, of so many bits at most."""
    counts = [0]
    for bit in range(many):
        counts = counts + [count + 1 for count in counts]
    return counts


def bits_read(form, other_form, places):
    """Of each place of a form the bits of the places that the other form reads about it."""
    at = {place: 1 << number for number, place in enumerate(places)}
    return [sum([at[dx + ex, dy + ey] for ex, ey in other_form]) for dx, dy in form]


def is_one(bits, lines, need, inner_need, counts):
    """Whether a rank of ranks tells 1 of a picture of 0 and 1: a rank does where ones enough are among its numbers."""
    return len([line for line in lines if counts[bits & line] >= inner_need]) >= need


def ranks_apart(one, other):
    places = added_places(one, other)
    need, other_need = len(one[2]) - one[3], len(other[2]) - other[3]
    lines, other_lines = bits_read(one[2], other[2], places), bits_read(other[2], one[2], places)
    counts = ones_in(len(places))
    for bits in range(len(counts)):
        if is_one(bits, lines, need, other_need, counts) != is_one(bits, other_lines, other_need, need, counts):
            return {place: (bits >> at & 1,) for at, place in enumerate(places)}
    return None


def power(base, exponent):
    told = 1
    for turn in range(exponent):
        told *= base
    return told


def tones_of(code, planes, tones):
    """The tuple of the numbers of a cell that a code stands for, each below tones."""
    return tuple([code // power(tones, plane) % tones for plane in range(planes)])


def lifts_apart(one, other, depth):
    planes = len(one[2][0][1])
    for code in range(power(depth + 1, planes)):
        numbers = tones_of(code, planes, depth + 1)
        first = lifted_numbers(one, lifted_numbers(other, numbers, depth), depth)
        if first != lifted_numbers(other, lifted_numbers(one, numbers, depth), depth):
            return {(0, 0): numbers}
    return None
