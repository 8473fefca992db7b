"""Lots: who is woken at once, and in which frames; and how they are written."""

from compassless.checks import require, require_frame, require_number
from compassless.errors import InvalidText
from compassless.kinds import is_number, is_turn
from compassless.placetexts import read_integer
from compassless.ruletrees import is_pair

NOBODY = "-"
BETWEEN = "; "


def is_waking(thing):
    """True if thing is a pair of a robot and a frame."""
    return is_pair(thing) and is_number(thing[0]) and is_turn(thing[1])


def is_any_lot(thing):
    """True if thing is a lot of any robots."""
    if not isinstance(thing, tuple) or not all([is_waking(item) for item in thing]):
        return False
    robots = [robot for robot, _ in thing]
    return robots == sorted(set(robots))


def is_lot_below(many, thing):
    """True if thing is a lot of robots below many."""
    return is_any_lot(thing) and all([robot < many for robot, _ in thing])


def are_lots_below(many, thing):
    """True if thing is a tuple of lots of robots below many."""
    return isinstance(thing, tuple) and all([is_lot_below(many, item) for item in thing])


def are_any_lots(thing):
    return isinstance(thing, tuple) and all([is_any_lot(item) for item in thing])


def find_lessened(turn, lot):
    """The lot with the turn taken off each frame."""
    return tuple([(robot, (frame - turn) % 4) for robot, frame in lot])


def waking_text(robot, frame):
    return str(robot) if frame == 0 else f"{robot}:{frame}"


def lot_text(lot):
    if lot == ():
        return NOBODY
    return " ".join([waking_text(robot, frame) for robot, frame in lot])


def read_waking(field):
    """The pair of a robot and a frame that is written as this field, or None."""
    word, colon, mark = field.partition(":")
    robot = read_integer(word)
    if robot is None or robot < 0:
        return None
    if colon == "":
        return (robot, 0)
    # A frame 0 is not written.
    return (robot, int(mark)) if mark in ("1", "2", "3") else None


def read_lot(many, number, text):
    """The lot with this number that the text tells."""
    if text == NOBODY:
        return ()
    lot = []
    for field in text.split(" "):
        waking = read_waking(field)
        if waking is None or waking[0] >= many or (lot != [] and waking[0] <= lot[-1][0]):
            raise InvalidText(number, len(lot))
        lot.append(waking)
    return tuple(lot)


def is_lot(many, thing):
    """True if thing is a lot of robots below many."""
    require_number(many)
    return is_lot_below(many, thing)


def all_lot(many, frame):
    """The lot of all robots below many, each in the frame."""
    require_number(many)
    require_frame(frame)
    return tuple([(robot, frame) for robot in range(many)])


def lessened(turn, lots):
    """The lots with the turn taken off each frame."""
    require(is_turn(turn), "turn")
    require(are_any_lots(lots), "lots")
    return tuple([find_lessened(turn, lot) for lot in lots])


def lot_line(lot):
    """The robots of the lot as a text, each with its frame unless this is 0."""
    require(is_any_lot(lot), "lot")
    return lot_text(lot)


def lots_line(lots):
    """The lots as a text, parted by semicolons."""
    require(are_any_lots(lots), "lots")
    return BETWEEN.join([lot_text(lot) for lot in lots])


def read_lots(many, text):
    """The lots of robots below many that the text tells."""
    require_number(many)
    require(isinstance(text, str), "text")
    if text == "":
        return ()
    parts = text.split(BETWEEN)
    return tuple([read_lot(many, k, parts[k]) for k in range(len(parts))])
