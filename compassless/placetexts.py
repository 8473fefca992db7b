"""Rows as texts: places written as (x,y), with one blank between two of them."""

from compassless.checks import require
from compassless.errors import InvalidText
from compassless.kinds import MOST_ROBOTS, is_row

DIGITS = "0123456789"


def read_integer(word):
    """The integer that str writes as this word, or None."""
    digits = word.removeprefix("-")
    if digits == "" or not all([sign in DIGITS for sign in digits]):
        return None
    found = int(word)
    # "007" and "-0" are read by int, but never written by str.
    return found if str(found) == word else None


def write_place(place):
    x, y = place
    return f"({x},{y})"


def read_place(field):
    """The place that is written as this field, or None."""
    if not field.startswith("(") or not field.endswith(")"):
        return None
    words = field[1:-1].split(",")
    if len(words) != 2:
        return None
    x = read_integer(words[0])
    y = read_integer(words[1])
    if x is None or y is None:
        return None
    return (x, y)


def place_line(row):
    """The places of the row in sequence, as a text."""
    require(is_row(row), "row")
    return " ".join([write_place(place) for place in row])


def read_places(text):
    """The row that is written as this text."""
    require(isinstance(text, str), "text")
    fields = text.split(" ")
    places = []
    for k in range(len(fields)):
        place = read_place(fields[k])
        if place is None or place in places or k == MOST_ROBOTS:
            raise InvalidText(0, k)
        places.append(place)
    if len(places) == 1:
        raise InvalidText(0, 1)
    return tuple(places)
