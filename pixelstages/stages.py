"""The makers of stages: each tells a tuple of its own name and its things, unlooked at."""

NEAR = "near"
WRAPPED = "wrapped"
MIRRORED = "mirrored"
# Of each kind what its things are, in the maker's order: words for the tests in kinds.
THINGS = {
    "source": ("picture", "border"), "framed": ("name", "window", "border"), "moved": ("name", "move", "move"),
    "flipped": ("name", "truth"), "turned": ("name",), "curved": ("name", "table", "new depth"),
    "lifted": ("name", "steps"), "unlifted": ("name", "steps"), "mixed": ("name", "mixing", "by", "plus"),
    "filtered": ("name", "filter", "by", "plus"), "ranked": ("name", "form", "rank"),
    "reduced": ("name", "block", "block"), "enlarged": ("name", "block", "block"), "near_band": ("name", "truth"),
    "far_band": ("name", "truth"), "paired": ("name", "name", "truth"), "summed": ("name", "window"),
    "unsummed": ("name",), "levelled": ("name", "window"), "met": ("name", "name", "meeting"),
    "chosen": ("name", "name", "name"), "own": ("name", "def"),
}


def source(picture, *, border=NEAR):
    return ("source", picture, border)


def framed(of, window, *, border=NEAR):
    return ("framed", of, window, border)


def moved(of, *, right=0, down=0):
    return ("moved", of, right, down)


def flipped(of, *, across=True):
    return ("flipped", of, across)


def turned(of):
    return ("turned", of)


def curved(of, table, *, depth=None):
    return ("curved", of, table, depth)


def lifted(of, steps):
    return ("lifted", of, steps)


def unlifted(of, steps):
    return ("unlifted", of, steps)


def mixed(of, rows, *, by=1, plus=0):
    return ("mixed", of, rows, by, plus)


def filtered(of, weights, *, by=1, plus=0):
    return ("filtered", of, weights, by, plus)


def ranked(of, form, *, rank=0):
    return ("ranked", of, form, rank)


def reduced(of, *, wide=2, high=2):
    return ("reduced", of, wide, high)


def enlarged(of, *, wide=2, high=2):
    return ("enlarged", of, wide, high)


def near_band(of, *, across=True):
    return ("near_band", of, across)


def far_band(of, *, across=True):
    return ("far_band", of, across)


def paired(near, far, *, across=True):
    return ("paired", near, far, across)


def summed(of, window):
    return ("summed", of, window)


def unsummed(of):
    return ("unsummed", of)


def levelled(of, window):
    return ("levelled", of, window)


def met(of, other, *, how="least"):
    return ("met", of, other, how)


def chosen(of, other, mask):
    return ("chosen", of, other, mask)


def own(of, tell):
    return ("own", of, tell)


def made_of(stage):
    """The list of the names of the stages that a stage is made of."""
    return [thing for word, thing in zip(THINGS[stage[0]], stage[1:]) if word == "name"]
