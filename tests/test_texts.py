"""Promise 40, and 4 as far as it speaks of it: texts of pictures and nets, written and read."""

import random
import unittest

from helper import (
    MORE_NAMES_KINDS, ONE_NAME_KINDS, OTHER_KINDS, keeps, net_of, refuses, some_border, some_net, some_picture, some_stage)
from pixelstages.errors import NoStage, NoText
from pixelstages.nets import Net
from pixelstages.pictures import Picture
from pixelstages.stages import (
    MIRRORED, WRAPPED, chosen, curved, enlarged, far_band, filtered, flipped, framed, levelled, lifted, met, mixed, moved,
    near_band, own, paired, ranked, reduced, source, summed, turned, unlifted, unsummed)
from pixelstages.texts import read_net, read_picture, show_net, show_picture

PICTURE = Picture((((0, 1), (2, 3)), ((3, 2), (1, 0))), left=-7, up=1000, depth=3)
PICTURE_TEXT = "picture -7 1000 3\n0 1\n2 3\n-\n3 2\n1 0"
NO_TEXTS = (*[thing for thing in OTHER_KINDS if not isinstance(thing, str)], 5, ["picture 0 0 1", "0"], b"picture 0 0 1\n0")
# Whole numbers that are written otherwise than told.
NO_NUMBERS = ("", "-", "+1", "01", "-0", "00", "1.0", "1_0", "1e1", "x", "--1", "0x1", "- 1", "9" * 5000, "-" + "9" * 5000)

STAGES = (
    (source(PICTURE, border=WRAPPED), "source -7,1000,3 0,1/2,3|3,2/1,0 wrapped"),
    (source(Picture((((0,),),), depth=65535), border=65535), "source 0,0,65535 0 65535"),
    (framed("a", (-1000, 1000, 48, 1), border=MIRRORED), "framed a -1000,1000,48,1 mirrored"),
    (framed("a", (0, 0, 1, 1), border=0), "framed a 0,0,1,1 0"),
    (moved("a", right=-500, down=500), "moved a -500 500"), (flipped("a"), "flipped a yes"),
    (flipped("a", across=False), "flipped a no"), (turned("a"), "turned a"), (curved("a", (0, 1, 3, 2)), "curved a 0,1,3,2 -"),
    (curved("a", (0, 9, 0, 65535), depth=65535), "curved a 0,9,0,65535 65535"),
    (lifted("a", ((0, (0, -64), 8), (1, (64, 0), 0))), "lifted a 0:0,-64:8/1:64,0:0"),
    (unlifted("a", ((1, (1, 0), 2),)), "unlifted a 1:1,0:2"),
    (mixed("a", ((1, -1000), (0, 0), (5, 6)), by=100000, plus=-65535), "mixed a 1,-1000/0,0/5,6 100000 -65535"),
    (filtered("a", ((1, 2, 1), (-3, 0, 1000)), by=4, plus=65535), "filtered a 1,2,1/-3,0,1000 4 65535"),
    (filtered("a", ((7,),)), "filtered a 7 1 0"), (ranked("a", ((0, 0), (-4, 4), (1, -1)), rank=2), "ranked a 0:0,-4:4,1:-1 2"),
    (reduced("a"), "reduced a 2 2"), (enlarged("a", wide=8, high=1), "enlarged a 8 1"),
    (near_band("a"), "near_band a yes"), (far_band("a", across=False), "far_band a no"), (paired("a", "b"), "paired a b yes"),
    (summed("a", (1, 2, 3, 4)), "summed a 1,2,3,4"), (unsummed("a"), "unsummed a"),
    (levelled("a", (-1, -2, 3, 4)), "levelled a -1,-2,3,4"), (met("a", "b"), "met a b least"),
    (met("a", "b", how="gap"), "met a b gap"), (met("a", "b", how="greatest"), "met a b greatest"),
    (met("a", "b", how="sum"), "met a b sum"), (chosen("a", "b", "a"), "chosen a b a"),
)


def some_texts(chance, many):
    """Nets without own defs, of every other kind."""
    kinds = tuple([kind for kind in (*ONE_NAME_KINDS, *MORE_NAMES_KINDS) if kind != "own"])
    return [some_net(chance, chance.randint(0, 8), kinds=kinds) for _ in range(many)]


class Reading(unittest.TestCase):
    """What both kinds of texts need."""

    def refused(self, act, text, row):
        self.assertEqual(refuses(self, NoText, act, text).row, row, repr(text)[:200])


class Pictures(Reading):
    def test_as_told(self):
        self.assertEqual(keeps(self, show_picture, PICTURE), PICTURE_TEXT)
        self.assertEqual(read_picture(PICTURE_TEXT), PICTURE)
        self.assertEqual(show_picture(Picture((((10, 0, 255),),))), "picture 0 0 255\n10 0 255")

    def test_what_is_written_is_read_as_it(self):
        chance = random.Random(601)
        for _ in range(200):
            picture = some_picture(chance, chance.randint(1, 4), chance.choice((1, 2, 255, 65535)))
            text = show_picture(picture)
            self.assertIs(type(text), str)
            self.assertEqual(read_picture(text), picture)
            self.assertEqual(len(text.split("\n")), len(picture.planes) * (picture.window()[3] + 1))

    def test_the_bounds(self):
        for picture in (Picture((((65535,) * 48,) * 48,) * 4, left=-1000, up=1000, depth=65535), Picture((((0,),),), depth=1)):
            self.assertEqual(read_picture(show_picture(picture)), picture)

    def test_what_is_no_text(self):
        for thing in NO_TEXTS:
            self.refused(read_picture, thing, 0)

    def test_the_first_row(self):
        for head in ("", " ", "picture", "picture ", "picture 0 0", "picture 0 0 1 ", " picture 0 0 1", "picture  0 0 1",
                     "picture 0 0 1 1", "Picture 0 0 1", "pictur 0 0 1", "picture -1001 0 1", "picture 1001 0 1",
                     "picture 0 -1001 1", "picture 0 1001 1", "picture 0 0 0", "picture 0 0 65536", "picture 0 0 -1",
                     "picture,0,0,1", "picture\t0 0 1", "0", "-", "stage a turned b",
                     *[f"picture {n} 0 1" for n in NO_NUMBERS], *[f"picture 0 {n} 1" for n in NO_NUMBERS],
                     *[f"picture 0 0 {n}" for n in NO_NUMBERS]):
            for rest in ("", "\n0", "\nx", "\n0\n-\n0\n0"):
                self.refused(read_picture, head + rest, 0)

    def test_each_later_row_spoilt_by_itself(self):
        rows = PICTURE_TEXT.split("\n")
        for at in range(1, len(rows)):
            for wrong in ("", " ", "0 ", " 0", "0  1", "0\t1", "--", "- ", " -", "- -", "0 -", "0,1", "65536 0", "-1 0",
                          "0 True", "picture 0 0 1", " ".join(["0"] * 49), *[f"0 {n}" for n in NO_NUMBERS],
                          *[n for n in NO_NUMBERS if n != "-"]):
                spoilt = rows[:at] + [wrong] + rows[at + 1:]
                self.refused(read_picture, "\n".join(spoilt), at)
                # The first one goes first.
                self.refused(read_picture, "\n".join([*spoilt, "x"]), at)
                if at > 1:
                    self.refused(read_picture, "\n".join(["picture 0 0 0", *spoilt[1:]]), 0)

    def test_line_ends_at_either_end(self):
        self.refused(read_picture, PICTURE_TEXT + "\n", 6)
        self.refused(read_picture, "\n" + PICTURE_TEXT, 0)
        self.refused(read_picture, PICTURE_TEXT.replace("\n", "\n\n", 1), 1)
        self.refused(read_picture, PICTURE_TEXT.replace("\n-", "\n\n-", 1), 3)

    def test_rows_that_are_right_by_themselves(self):
        """The count of rows, whatever the whole is refused for."""
        for text in ("picture 0 0 1", "picture 0 0 1\n-", "picture 0 0 1\n2", "picture 0 0 1\n0\n0 0", "picture 0 0 1\n0\n-",
                     "picture 0 0 1\n-\n0", "picture 0 0 1\n0\n-\n-\n0", "picture 0 0 1\n0\n-\n0\n0",
                     "picture 0 0 1\n0\n-\n0 0", "picture 0 0 1" + "\n0\n-" * 4 + "\n0", "picture 0 0 1" + "\n0" * 49,
                     "picture 0 0 9\n65535"):
            self.refused(read_picture, text, len(text.split("\n")))
        self.assertEqual(len(read_picture("picture 0 0 1" + "\n0" * 48)), 48)
        self.assertEqual(read_picture("picture 0 0 1\n" + " ".join(["1"] * 48)).window(), (0, 0, 48, 1))
        self.assertEqual(len(read_picture("picture 0 0 1" + "\n0\n-" * 3 + "\n0").planes), 4)


class Nets(Reading):
    def test_as_told(self):
        for stage, text in STAGES:
            net = net_of(a=source(PICTURE), b=source(PICTURE), x=stage) if stage[0] != "source" else net_of(x=stage)
            rows = keeps(self, lambda: show_net(net)).split("\n")
            self.assertEqual(rows[-1], f"stage x {text}")
            self.assertEqual(read_net("\n".join(rows)), net)
        self.assertEqual({stage[0] for stage, _ in STAGES}, {"source", *ONE_NAME_KINDS, *MORE_NAMES_KINDS} - {"own"})

    def test_all_kinds_in_one(self):
        net = net_of(a=source(PICTURE), b=source(PICTURE))
        for at, (stage, _) in enumerate(STAGES[2:24]):
            net.put("s" + "abcdefghijklmnopqrstuvwxyz"[at], stage)
        text = show_net(net)
        self.assertEqual(len(text.split("\n")), 24)
        self.assertEqual(read_net(text), net)

    def test_what_is_written_is_read_as_it(self):
        for net in some_texts(random.Random(602), 150):
            text = show_net(net)
            self.assertIs(type(text), str)
            other = read_net(text)
            self.assertIs(type(other), Net)
            self.assertEqual(other, net)
            self.assertEqual([other.shape(name) for name in other.names()], [net.shape(name) for name in net.names()])
            self.assertEqual(show_net(other), text)
            name = net.names()[-1]
            self.assertEqual(other.whole(name, (-2, -2, 4, 4)), net.whole(name, (-2, -2, 4, 4)))
            other.put("new", turned(name))
            self.assertEqual(show_net(net), text)

    def test_made_of_one_that_stands_later(self):
        net = net_of(a=source(PICTURE), b=turned("a"), c=flipped("a"))
        net.put("b", met("c", "a"))
        text = show_net(net)
        self.assertEqual([row.split()[1] for row in text.split("\n")], ["a", "b", "c"])
        self.assertEqual(read_net(text), net)
        self.assertEqual(read_net(text).names(), ["a", "b", "c"])

    def test_no_stages(self):
        self.assertEqual(show_net(Net()), "")
        self.assertEqual(read_net(""), Net())
        self.assertEqual(len(read_net("")), 0)

    def test_own_ones(self):
        net = net_of(a=source(PICTURE), b=own("a", max), c=turned("a"))
        refuses(self, NoStage, lambda: show_net(net))
        self.assertEqual(net.names(), ["a", "b", "c"])
        for row in ("stage b own a", "stage b own a max", "stage b own a -"):
            self.refused(read_net, "stage a source 0,0,3 0 near\n" + row, 1)

    def test_what_is_no_text(self):
        for thing in NO_TEXTS:
            self.refused(read_net, thing, 0)

    def test_the_longest_table(self):
        net = net_of(a=source(Picture((((65535,),),), depth=65535)), b=curved("a", tuple(range(65535, -1, -1))))
        self.assertEqual(read_net(show_net(net)), net)

    def test_24_stages_and_25(self):
        rows = ["stage a source 0,0,3 0 near"]
        rows += [f"stage {one}{two} turned a" for one in "bcde" for two in "fghijklmnopqrs"]
        self.assertEqual(len(read_net("\n".join(rows[:24]))), 24)
        for many in (25, 26, len(rows)):
            self.refused(read_net, "\n".join(rows[:many]), many)


class NetsRefused(Reading):
    def spoilt(self, row):
        """A row that is none by itself, behind a right one and ahead of another."""
        first = "stage a source -7,1000,3 0,1/2,3|3,2/1,0 near"
        self.refused(read_net, row, 0)
        self.refused(read_net, f"{first}\n{row}", 1)
        self.refused(read_net, f"{first}\n{row}\nx", 1)
        self.refused(read_net, f"{first}\nstage b turned a\n{row}\n", 2)

    def test_rows_that_are_none(self):
        for row in (" ", "stage", "stage ", "stage x", "stage x ", "stage x turned", "stage x turned ", " stage x turned a",
                    "stage x turned a ", "stage  x turned a", "stage x  turned a", "stage x turned  a", "Stage x turned a",
                    "x turned a", "stage x turne a", "stage x Turned a", "stage X turned a", "stage xxxxxxxxx turned a",
                    "stage x turned A", "stage x turned a a", "stage x turned a -", "stage\tx turned a", "stage x turned a\t",
                    "picture 0 0 1", "stage x source", "stage x source 0,0,1", "stage x source 0,0,1 0",
                    "stage x source 0,0,1 0 near near", "stage x - a", "-"):
            self.spoilt(row)

    def test_each_word_spoilt(self):
        for stage, text in STAGES:
            words = text.split(" ")
            for at in range(len(words)):
                for wrong in ("", "-", "A", "*", "yes!", "None", "True", "no ", "0,", ",0", "0,,0", "0/", "/0", "0//0", "0:",
                              ":0", "0|", "|0", "0:0:0:0", "0::0", "0;0", *NO_NUMBERS):
                    # A depth that stays, and a name that isn't there, are right by themselves.
                    if wrong == "x" or (wrong == "-" and words[0] == "curved" and at == 3):
                        continue
                    self.spoilt("stage x " + " ".join(words[:at] + [wrong] + words[at + 1:]))

    def test_noughts_ahead_and_signs_in_every_number(self):
        for stage, text in STAGES:
            for at, sign in enumerate(text):
                if sign.isdigit() and not text[at - 1].isdigit():
                    for more in ("0", "+", "00", "-0", " ", "_", "--"):
                        self.spoilt("stage x " + text[:at] + more + text[at:])

    def test_by_itself_beyond_its_bounds(self):
        for text in ("moved a 501 0", "moved a 0 -501", "framed a -1001,0,1,1 near", "framed a 0,0,49,1 near",
                     "framed a 0,0,1 near", "framed a 0,0,1,1 65536", "framed a 0,0,1,1 -1", "flipped a True", "curved a 0 -",
                     "curved a 0,65536 -", "curved a 0,2 1", "curved a 0,1 0", "curved a 0,1 65536", "lifted a 0:1:0",
                     "lifted a 0:0:9", "lifted a 0:0,65:0", "lifted a 1:0:0", "lifted a 0:0:0/0:0,1:0", "lifted a 0:0",
                     "mixed a 1,2/1 1 0", "mixed a 1001 1 0", "mixed a 1,1,1,1,1 1 0", "mixed a 1 100001 0", "mixed a 1 1 65536",
                     "mixed a 1 0 0", "filtered a 1 0 0", "filtered a 1,2/3 1 0", "filtered a 1/1/1/1/1/1 1 0",
                     "ranked a 0:0,0:0 0", "ranked a 5:0 0", "ranked a 0:0 1", "ranked a 0:0:0 0", "ranked a 0 0",
                     "reduced a 0 1", "reduced a 1 9", "met a b most", "summed a 0,0,0,1", "levelled a 0,0,1,1,1",
                     "source 0,0,1 2 near", "source 0,0 0 near", "source 0,0,0 0 near", "source 1001,0,1 0 near",
                     "source 0,0,1 0/0,0 near", "source 0,0,1 0|0|0|0|0 near", "source 0,0,1 0|0/0 near",
                     "source 0,0,1 0 65536", "source 0,0,1 0 far", "source 0,0,65536 0 near"):
            self.spoilt("stage x " + text)

    def test_names_that_an_earlier_one_has(self):
        first = "stage a source 0,0,3 0 near"
        self.refused(read_net, f"{first}\n{first}", 1)
        self.refused(read_net, f"{first}\nstage b turned a\nstage a turned b", 2)
        self.refused(read_net, f"{first}\nstage b turned a\nstage b turned a\nx", 2)
        self.refused(read_net, f"{first}\nx\nstage a turned a", 1)

    def test_line_ends_at_either_end(self):
        text = "stage a source 0,0,3 0 near\nstage b turned a"
        self.refused(read_net, text + "\n", 2)
        self.refused(read_net, "\n" + text, 0)
        self.refused(read_net, text.replace("\n", "\n\n"), 1)
        self.refused(read_net, "\n", 0)
        self.refused(read_net, " ", 0)

    def test_the_whole(self):
        """The count of rows, whatever the whole is refused for."""
        first = "stage a source 0,0,3 0,1 near"
        for rows in (["stage b turned a"], [first, "stage b turned c"], [first, "stage b turned b"],
                     [first, "stage b turned c", "stage c turned b"], [first, "stage b curved a 0,1 -"],
                     [first, "stage b curved a 0,1,2,4 -"], [first, "stage b mixed a 1,1 1 0"],
                     [first, "stage b lifted a 0:0,1:0"], [first, "stage b framed a 0,0,1,1 4"],
                     ["stage a source 0,0,3 0 4"], ["stage a source 0,0,3 0 65535"],
                     [first, "stage b source 0,0,4 0 near", "stage c met a b gap"],
                     [first, "stage b source 0,0,3 0|1 near", "stage c paired a b yes"],
                     [first, "stage b source 0,0,4 0 near", "stage c chosen a b a"],
                     ["stage c turned b", "stage b mixed a 1,1 1 0", first]):
            self.refused(read_net, "\n".join(rows), len(rows))


class Drawn(Reading):
    def test_each_sign_spoilt(self):
        """A text with one sign exchanged is refused, or is the text of what is read."""
        chance = random.Random(603)
        for net in some_texts(chance, 60):
            text = show_net(net)
            if len(text) > 3000:
                continue
            for _ in range(60):
                at = chance.randrange(len(text))
                other = text[:at] + chance.choice(("", " ", ",", "/", "|", ":", "-", "0", "1", "9", "a", "\n", "~")) + text[at + 1:]
                try:
                    read = read_net(other)
                except NoText as error:
                    self.assertTrue(0 <= error.row <= len(other.split("\n")))
                    continue
                self.assertEqual(show_net(read), other)
            picture = some_picture(chance, 2, 9)
            text = show_picture(picture)
            for _ in range(60):
                at = chance.randrange(len(text))
                other = text[:at] + chance.choice(("", " ", "-", "0", "1", "9", "\n", "\n-\n", "~")) + text[at + 1:]
                try:
                    read = read_picture(other)
                except NoText as error:
                    self.assertTrue(0 <= error.row <= len(other.split("\n")))
                    continue
                self.assertEqual(show_picture(read), other)

    def test_every_kind(self):
        chance = random.Random(604)
        for kind in (*ONE_NAME_KINDS, *MORE_NAMES_KINDS):
            for _ in range(10):
                planes, depth = chance.randint(1, 4), chance.choice((1, 9, 255))
                net = Net()
                for name in "abm":
                    net.put(name, source(some_picture(chance, planes, depth), border=some_border(chance, depth)))
                net.put("top", some_stage(chance, kind, (planes, depth), "a", ("b", "m")))
                if kind == "own":
                    refuses(self, NoStage, lambda: show_net(net))
                else:
                    self.assertEqual(read_net(show_net(net)), net)


if __name__ == "__main__":
    unittest.main()
