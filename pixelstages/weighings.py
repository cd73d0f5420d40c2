"""The sums that weights come to, of numbers from 0 to a depth."""


def totals_along(sums, weight, depth):
    """All totals that the sums and depth times the weight span, along the weight's sign."""
    low, high, reach = min(list(sums)), max(list(sums)), weight * depth
    if weight > 0:
        return list(range(low, high + reach + 1))
    return list(range(high, low + reach - 1, -1))


def widened(sums, weight, depth):
    """Of each sum that is one of the sums and some times the weight, at most depth times: how many times at least."""
    told = {}
    # Along the weight's sign, so that the sum one weight nearer is told already.
    for total in totals_along(sums, weight, depth):
        if total in sums:
            told[total] = 0
        elif told.get(total - weight, depth) < depth:
            told[total] = told[total - weight] + 1
    return told


def layered_sums(weights, depth):
    """A list: of no weight, the first one, the first two and so on, a dict of their sums, each with the last's number.

    None of the weights is 0.
    """
    layers = [{0: 0}]
    for weight in weights:
        layers.append(widened(layers[-1], weight, depth))
    return layers


def numbers_for(weights, layers, total):
    """The list of the numbers, one for each weight, whose sum by the weights is total, which the last layer has."""
    numbers = []
    for place in range(len(weights), 0, -1):
        number = layers[place][total]
        numbers.append(number)
        total -= weights[place - 1] * number
    return numbers[::-1]
