"""The ten words of the language: what a robot can tell of its view."""

from compassless.centres import find_sum
from compassless.checks import require
from compassless.folds import find_fold
from compassless.forms import are_alike
from compassless.kinds import is_standing, is_view
from compassless.orbits import find_orbit
from compassless.ruletrees import WORDS
from compassless.standings import find_box
from compassless.weights import weigh


def count_heavier(view):
    """How many places have a greater weight than (0, 0)."""
    total = find_sum(view)
    own = weigh(len(view), total, (0, 0))
    return len([place for place in view if weigh(len(view), total, place) > own])


def find_shape_word(word, view):
    """The words that tell of the whole view where it lies."""
    low, top = find_box(view)
    if word == "wide":
        return top[0] - low[0]
    if word == "high":
        return top[1] - low[1]
    if word == "far":
        return max([abs(x) + abs(y) for x, y in view])
    return find_sum(view)[0 if word == "sumx" else 1]


def find_word(word, view, figure):
    if word == "many":
        return len(view)
    if word == "fold":
        return find_fold(view)
    if word == "twins":
        # Just those of one orbit see the same in some frames.
        return len(find_orbit(view, (0, 0)))
    if word == "rank":
        return count_heavier(view)
    if word == "done":
        return 1 if figure is not None and are_alike(view, figure) else 0
    return find_shape_word(word, view)


def word_of(word, view, figure):
    """What the word tells of the view; figure is None or any standing."""
    require(word in WORDS, "word")
    require(is_view(view), "view")
    require(figure is None or is_standing(figure), "figure")
    return find_word(word, view, figure)
