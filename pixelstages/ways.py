"""Steps from a row of stages to its plain form, each by one rule; rows are as they are told."""

from pixelstages.plains import is_flat, is_idle, table_of_tables
from pixelstages.stages import curved, flipped, moved


def does_nothing(stage):
    if stage[0] == "moved":
        return stage[2] == 0 and stage[3] == 0
    return stage[0] == "curved" and stage[3] is None and is_idle(stage[2])


def may_exchange(one, other):
    """Whether two neighbours may be exchanged: unlike kinds, or two flipped ones of unlike sides."""
    return one[0] != other[0] or (one[0] == "flipped" and one[2] != other[2])


def passed(stage, other):
    """What a stage becomes where it is exchanged with the other one."""
    if stage[0] == "moved" and other[0] == "flipped":
        if other[2]:
            return moved("in", right=-stage[2], down=stage[3])
        return moved("in", right=stage[2], down=-stage[3])
    if stage[0] == "moved" and other[0] == "turned":
        return moved("in", right=stage[3], down=stage[2])
    if stage[0] == "flipped" and other[0] == "turned":
        return flipped("in", across=not stage[2])
    return stage


def may_join(one, other):
    """Whether two neighbours may be put together."""
    return one[0] == other[0] and one[0] in ("moved", "curved")


def joined(one, other):
    """Two moved or two curved ones put together."""
    if one[0] == "moved":
        return moved("in", right=one[2] + other[2], down=one[3] + other[3])
    end = one[3] if other[3] is None else other[3]
    return curved("in", table_of_tables(one[2], other[2]), depth=None if end == len(one[2]) - 1 else end)


def may_cancel(one, other):
    """Whether two neighbours may be left out together: two turned ones, or two flipped ones of one side."""
    return one == other and one[0] in ("turned", "flipped")


def is_flat_curve(stage):
    return stage[0] == "curved" and is_flat(stage[2])


def may_leave(row, at):
    """Whether the stage at a place of a row may be left out by itself."""
    if does_nothing(row[at]):
        return True
    neighbours = row[max(0, at - 1):at] + row[at + 1:at + 2]
    return row[at][0] != "curved" and any([is_flat_curve(stage) for stage in neighbours])


def replaced(row, at, many, stages):
    """The row with so many stages from a place on exchanged for others."""
    return row[:at] + stages + row[at + many:]


def exchanged(row, at):
    """The row with the stages at a place and behind it exchanged."""
    one, other = row[at], row[at + 1]
    return replaced(row, at, 2, [passed(other, one), passed(one, other)])


def pair_behind(one, other):
    """Two neighbours, put together where they may be, else exchanged: a list."""
    return [joined(one, other)] if may_join(one, other) else [passed(other, one), passed(one, other)]


def order_of(stage):
    """Where a stage stands in plain forms, turned ones first."""
    if stage[0] == "flipped":
        return 1 if stage[2] else 2
    return ("turned", "", "", "moved", "curved").index(stage[0])


def first_of(row, is_such):
    """The first place of a row's neighbours, but for the last stage, for which a test holds of both; None of none."""
    for at in range(len(row) - 1):
        if is_such(row[at], row[at + 1]):
            return at
    return None


def shorter_row(row):
    """The row with those left out that may be; None where there are none such."""
    at = first_of(row, may_cancel)
    if at is not None:
        return replaced(row, at, 2, [])
    for place in range(len(row)):
        if may_leave(row, place):
            return replaced(row, place, 1, [])
    return None


def is_out_of_order(one, other):
    return order_of(one) > order_of(other)


def is_curve_ahead(one, other):
    return one[0] == "curved"


def next_row(row):
    """The row one step nearer to its plain form; None where it is plain.

    What may be left out goes first, so that no later step does what an earlier one could have done.
    """
    after = shorter_row(row)
    if after is not None:
        return after
    # Curved ones go to the end first, where they become one: rows are held side by side sooner with few tables.
    for is_such in (is_curve_ahead, may_join, is_out_of_order):
        at = first_of(row, is_such)
        if at is not None:
            return replaced(row, at, 2, pair_behind(row[at], row[at + 1]))
    return None


def steps_from(row):
    """The list of rows from a row to its plain form, each the one ahead by one step."""
    rows, after = [row], next_row(row)
    while after is not None:
        rows.append(after)
        after = next_row(after)
    return rows


def first_unlike(row, other):
    """The first place at which two rows, alike long, are unlike; None where they are the same."""
    for at, stage in enumerate(row):
        if stage != other[at]:
            return at
    return None


def is_exchange(row, other):
    # An exchange brings another stage to its first place, so that there is but one place to look at.
    at = first_unlike(row, other)
    if at is None or at == len(row) - 1 or not may_exchange(row[at], row[at + 1]):
        return False
    return exchanged(row, at) == other


def is_leaving(row, other):
    """Whether a row becomes the other one, which is one shorter, by one stage left out."""
    return any([replaced(row, at, 1, []) == other and may_leave(row, at) for at in range(len(row))])


def is_joining(row, other):
    """Whether a row becomes the other one, which is one shorter, by two neighbours put together."""
    for at in range(len(other)):
        # The rest is held side by side first, as tables may be long.
        if may_join(row[at], row[at + 1]) and row[:at] == other[:at] and row[at + 2:] == other[at + 1:]:
            if joined(row[at], row[at + 1]) == other[at]:
                return True
    return False


def is_cancelling(row, other):
    """Whether a row becomes the other one, which is two shorter, by two neighbours left out."""
    return any([may_cancel(row[at], row[at + 1]) and replaced(row, at, 2, []) == other for at in range(len(row) - 1)])


def is_step(row, other):
    """Whether a row becomes the other one by one rule."""
    fewer = len(row) - len(other)
    if fewer == 0:
        return is_exchange(row, other)
    if fewer == 1:
        return is_leaving(row, other) or is_joining(row, other)
    return fewer == 2 and is_cancelling(row, other)
