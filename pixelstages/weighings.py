"""The sums that weights come to, of numbers from 0 to a depth."""


def width_of(weights, depth):
    """How far apart the least and the greatest sum are."""
    return depth * sum([abs(weight) for weight in weights])


def totals_along(sums, weight, depth):
    """All totals that the sums and depth times the weight span, along the weight's sign."""
    low, high, reach = min(list(sums)), max(list(sums)), weight * depth
    if weight > 0:
        return list(range(low, high + reach + 1))
    return list(range(high, low + reach - 1, -1))


def widened(sums, weight, depth):
    """Of each sum that is one of the sums and some times the weight, at most depth times: how many times at least."""
    told = {}
    # Along the weight's sign, so that the sum one weight nearer is told already.
    for total in totals_along(sums, weight, depth):
        if total in sums:
            told[total] = 0
        elif told.get(total - weight, depth) < depth:
            told[total] = told[total - weight] + 1
    return told


def layered_sums(weights, depth):
    """A list: of no weight, of the first one, the first two and so on a dict of their sums, with the last's number."""
    layers = [{0: 0}]
    for weight in weights:
        layers.append(widened(layers[-1], weight, depth))
    return layers


def numbers_for(weights, layers, total):
    """The list of the numbers, one for each weight, whose sum by the weights is total, which the last layer has."""
    numbers = []
    for place in range(len(weights), 0, -1):
        number = layers[place][total]
        numbers.append(number)
        total -= weights[place - 1] * number
    return numbers[::-1]


def matched(layer, pairs):
    """Of each sum of the layer's and one first of the pairs: the greatest sum beside it, and which pair makes it."""
    told = {}
    for total in layer:
        beside = layer[total][0]
        for at, (first, second) in enumerate(pairs):
            sum_of_firsts = total + first
            if sum_of_firsts not in told or told[sum_of_firsts][0] < beside + second:
                told[sum_of_firsts] = (beside + second, at)
    return told


def matched_layers(choices):
    """A list as of layered_sums, of lists of pairs, one pair being chosen of each.

    By the sum of the firsts: a tuple of the greatest sum of the seconds and of the place of the last pair chosen.
    """
    layers = [{0: (0, None)}]
    for pairs in choices:
        layers.append(matched(layers[-1], pairs))
    return layers


def choices_for(choices, layers, total):
    """The list of the places of the pairs chosen, one of each list, for a sum of firsts that the last layer has."""
    chosen_places = []
    for place in range(len(choices), 0, -1):
        at = layers[place][total][1]
        chosen_places.append(at)
        total -= choices[place - 1][at][0]
    return chosen_places[::-1]
