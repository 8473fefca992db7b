"""What the lines of a desk answer, and what they change; given are rows, rules, numbers and texts."""

from compassless.drawings import read_drawing, show_drawing
from compassless.fitting import fits, why_of
from compassless.folds import class_of
from compassless.house import house_moves
from compassless.lefts import left_of, most_of
from compassless.lots import read_lots
from compassless.meetings import meets
from compassless.mends import dropped, joined, pushed
from compassless.needs import needed
from compassless.placetexts import place_line, read_places, write_place
from compassless.readings import read_rule
from compassless.routes import route_of
from compassless.ticks import tick
from compassless.verdicts import verdict_of

NOBODY = "nobody"


def standing_in(row):
    return tuple(sorted(row))


def yes_or_no(fine):
    return "yes" if fine else "no"


def all_entries(thing):
    """The entries of the tuple, inner ones too, as texts; of all else the text of it alone."""
    if not isinstance(thing, tuple):
        return [str(thing)]
    return [text for item in thing for text in all_entries(item)]


def entries_text(thing):
    return " ".join([text for text in all_entries(thing) if text != ""])


def moves_text(moves):
    """The moves with choice, each as its place and its steps."""
    return "; ".join([" ".join([write_place(pair) for pair in [place, *steps]]) for place, steps in moves])


def verdict_text(paper):
    if paper[0] == "yes":
        return f"yes {len(paper[1])}"
    many = sum([len(lots) for lots in paper[2:]])
    return f"no {paper[1]} {many}"


def answer_one(head, row):
    """The answer to a line that asks for one row."""
    if head == "places":
        return place_line(row)
    standing = standing_in(row)
    if head == "show":
        return show_drawing(standing).replace("\n", "/")
    if head == "meets":
        return yes_or_no(meets(standing))
    return entries_text(class_of(standing))


def answer_two(head, row, figure):
    """The answer to a line that asks for a row and a figure."""
    standing = standing_in(row)
    if head == "fits":
        return yes_or_no(fits(standing, figure))
    if head == "why":
        return entries_text(why_of(standing, figure))
    if head == "house":
        return moves_text(house_moves(standing, figure))
    if head == "left":
        return entries_text(left_of(standing, figure))
    if head == "most":
        return entries_text(most_of(standing, figure))
    return entries_text(needed(row, figure))


def answer_route(row, others):
    standing = standing_in(row)
    figures = [standing_in(other) for other in others]
    return entries_text(route_of(standing, *figures))


def find_answer(head, given):
    """The answer to a line that changes nothing."""
    row = given[0]
    if head == "route":
        return answer_route(row, given[1:])
    if len(given) == 1:
        return answer_one(head, row)
    figure = standing_in(given[1])
    if head == "verdict":
        return verdict_text(verdict_of(row, given[2], figure, given[3]))
    answer = answer_two(head, row, figure)
    # Only the moves of the house, and those who are needed, may be none at all.
    return NOBODY if answer == "" else answer


def find_made(head, text):
    """What a line draw, row or rule makes: "row" or "rule", the row or the rule, how many it has."""
    if head == "rule":
        rule = read_rule(text)
        return ("rule", rule, len(rule[2]))
    row = read_places(text) if head == "row" else read_drawing(text.replace("/", "\n"))
    return ("row", row, len(row))


def find_changed(head, given):
    """The row that a line tick, push, join or drop makes of its row."""
    row = given[0]
    if head == "tick":
        lots = read_lots(len(row), given[3])
        return tick(row, given[2], standing_in(given[1]), lots[0])
    if head == "push":
        return pushed(row, given[1], given[2])
    return joined(row, given[1]) if head == "join" else dropped(row, given[1])
