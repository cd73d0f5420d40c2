"""The refusals: a class for each kind, so that a caller can tell them apart.

The fields of those that have some are told by place, in the order of their parameters.
"""


class PixelError(ValueError):
    """What stands above all refusals that have no plainer place among Python's own."""


class NoPicture(PixelError):
    """Of what is no picture."""


class NoStage(PixelError):
    """Of what is no stage."""


class NoName(PixelError):
    """Of what is no name."""


class NoShape(PixelError):
    """Of stages whose planes or depths don't fit."""


class NoPlace(PixelError):
    """Of what is no place that is asked for."""


class NoSource(PixelError):
    """Of a stage that is no source."""


class NoTone(PixelError):
    """Of what is no number of a depth, or no depth; the cell is told where there is one."""

    def __init__(self, cell=None):
        self.cell = cell


class NoNumber(PixelError):
    """Of what is no number within its bounds."""


class NoRow(PixelError):
    """Of what is no row of stages."""


class Ring(PixelError):
    """Of a stage that would be made of itself."""


class Used(PixelError):
    """Of a stage that another one is made of."""


class TooMany(PixelError):
    """Of more stages than a net has."""


class TooMuch(PixelError):
    """Of an asking that would reckon more tiles than it may."""

    def __init__(self, reckoned, left):
        self.reckoned = reckoned
        self.left = left


class TooWide(PixelError):
    """Of weights that are too great for a paper."""


class Busy(PixelError):
    """Of what is called while an asking goes on."""


class Closed(PixelError):
    """Of a view that was closed."""


class NoText(PixelError):
    """Of a text that can't be read; row is the number of the first wrong one."""

    def __init__(self, row):
        self.row = row


class Missing(KeyError):
    """Of whatever is no name of a stage that is there."""

    def __init__(self, name):
        self.name = name


class NoWindow(IndexError):
    """Of a window or cell that is none, or outside."""


class NoPaper(LookupError):
    """Of what no paper answers."""


class NoDivisor(ZeroDivisionError):
    """Of a division by 0."""
