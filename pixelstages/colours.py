"""Steps that are undone exactly, and rounded weights over the planes of a cell.

Floors are made as told in geometry.
"""


def summed_up(weights, numbers):
    return sum([weight * number for weight, number in zip(weights, numbers)])


def held(number, depth):
    return min(max(number, 0), depth)


def rounded(total, by, plus, depth):
    """What weights whose sum is total come to: divided by by, just a half going up."""
    return held((2 * total + by) // (2 * by) + plus, depth)


def stepped(numbers, step, sign, depth):
    """The numbers behind a step, done where sign is 1 and undone where it is -1."""
    plane, weights, shift = step
    # The plane's own weight is 0, so doing and undoing see the same sum.
    change = summed_up(weights, numbers) >> shift
    number = (numbers[plane] + sign * change) % (depth + 1)
    return numbers[:plane] + (number,) + numbers[plane + 1:]


def lifted_numbers(stage, numbers, depth):
    """The numbers of a cell behind a stage lifted or unlifted."""
    is_lifted = stage[0] == "lifted"
    for step in stage[2] if is_lifted else stage[2][::-1]:
        numbers = stepped(numbers, step, 1 if is_lifted else -1, depth)
    return numbers


def lifted_floor(stage, shape, of):
    depth = shape[1]
    return lambda x, y: lifted_numbers(stage, of[x, y], depth)


def mixed_shape(stage, shape):
    return (len(stage[2]), shape[1])


def reads_own_cell(rows):
    """Whether some weight isn't 0: a cell whose weights are all 0 isn't read, so nothing there can be refused."""
    return any([weight != 0 for row in rows for weight in row])


def mixed_floor(stage, shape, of):
    rows, by, plus = stage[2:]
    planes, depth = shape
    is_read = reads_own_cell(rows)

    def tell(x, y):
        numbers = of[x, y] if is_read else (0,) * planes
        return tuple([rounded(summed_up(row, numbers), by, plus, depth) for row in rows])
    return tell


COLOUR_FLOORS = {"lifted": lifted_floor, "unlifted": lifted_floor, "mixed": mixed_floor}
