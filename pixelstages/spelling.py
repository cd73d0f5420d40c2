"""How the things of stages are written as words, and read from them.

A word that can't be read is told as a thing that is none of its kind, so that the look at the stage refuses it.
"""

from pixelstages.errors import NoPicture
from pixelstages.pictures import Picture

FIGURES = "0123456789"
# No number of a picture or a stage has more; and of very many of them Python itself would refuse to read one.
MOST_FIGURES = 6


def read_number(text):
    """The whole number that a text tells by its figures; None where it tells none."""
    figures = text[1:] if text.startswith("-") else text
    if not 1 <= len(figures) <= MOST_FIGURES or not all([sign in FIGURES for sign in figures]):
        return None
    number = int(text)
    # Noughts ahead and a nought below 0 are written otherwise.
    return number if str(number) == text else None


def show_numbers(numbers):
    return ",".join([str(number) for number in numbers])


def read_numbers(text):
    return tuple([read_number(part) for part in text.split(",")])


def show_plain(thing):
    """A text as it is, a whole number by its figures."""
    return str(thing)


def read_plain(text):
    return text


def read_border(text):
    number = read_number(text)
    return text if number is None else number


def show_truth(truth):
    return "yes" if truth else "no"


def read_truth(text):
    if text == "yes":
        return True
    return False if text == "no" else None


def show_new_depth(depth):
    return "-" if depth is None else str(depth)


def read_new_depth(text):
    if text == "-":
        return None
    number = read_number(text)
    return False if number is None else number


def show_rows(rows):
    return "/".join([show_numbers(row) for row in rows])


def read_rows(text):
    return tuple([read_numbers(part) for part in text.split("/")])


def show_form(form):
    return ",".join([f"{dx}:{dy}" for dx, dy in form])


def read_form(text):
    return tuple([tuple([read_number(part) for part in place.split(":")]) for place in text.split(",")])


def show_steps(steps):
    return "/".join([f"{plane}:{show_numbers(weights)}:{shift}" for plane, weights, shift in steps])


def read_step(text):
    parts = text.split(":")
    if len(parts) != 3:
        return None
    return (read_number(parts[0]), read_numbers(parts[1]), read_number(parts[2]))


def read_steps(text):
    return tuple([read_step(part) for part in text.split("/")])


def show_planes(picture):
    """The two words of a picture."""
    head = show_numbers((picture.left, picture.up, picture.depth))
    planes = "|".join([show_rows(plane) for plane in picture.planes])
    return f"{head} {planes}"


def made_picture(planes, left, up, depth):
    """The picture, or None where it is none."""
    try:
        return Picture(planes, left=left, up=up, depth=depth)
    except NoPicture:
        return None


def read_planes(text):
    head, blank, rest = text.partition(" ")
    numbers = read_numbers(head)
    if len(numbers) != 3:
        return None
    left, up, depth = numbers
    return made_picture(tuple([read_rows(part) for part in rest.split("|")]), left, up, depth)


# Both of the words in THINGS, but for defs, which aren't written.
SHOWERS = {
    "picture": show_planes, "border": show_plain, "name": show_plain, "window": show_numbers, "move": show_plain,
    "truth": show_truth, "table": show_numbers, "new depth": show_new_depth, "steps": show_steps, "mixing": show_rows,
    "filter": show_rows, "by": show_plain, "plus": show_plain, "form": show_form, "rank": show_plain,
    "block": show_plain, "meeting": show_plain,
}
WORD_READERS = {
    "picture": read_planes, "border": read_border, "name": read_plain, "window": read_numbers, "move": read_number,
    "truth": read_truth, "table": read_numbers, "new depth": read_new_depth, "steps": read_steps, "mixing": read_rows,
    "filter": read_rows, "by": read_number, "plus": read_number, "form": read_form, "rank": read_number,
    "block": read_number, "meeting": read_plain,
}


def show_thing(word, thing):
    show = SHOWERS[word]
    return show(thing)


def read_thing(word, text):
    read = WORD_READERS[word]
    return read(text)
