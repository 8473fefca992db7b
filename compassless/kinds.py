"""What kind a value is: any value may be asked, and the answer is True or False."""

# East, north, west and south.
STEPS = ((1, 0), (0, 1), (-1, 0), (0, -1))
LEAST_ROBOTS = 2
MOST_ROBOTS = 10


def is_integer(thing):
    # Python takes a bool for an int; the document does not.
    return isinstance(thing, int) and not isinstance(thing, bool)


def is_number(thing):
    return is_integer(thing) and thing >= 0


def is_turn(thing):
    return is_integer(thing) and 0 <= thing <= 3


def is_place(thing):
    """True if thing is a pair of integers."""
    return isinstance(thing, tuple) and len(thing) == 2 and is_integer(thing[0]) and is_integer(thing[1])


def is_step(thing):
    """True if thing is one of the four steps."""
    return is_place(thing) and thing in STEPS


def is_motion(thing):
    """True if thing is a triple of a turn and two integers."""
    return isinstance(thing, tuple) and len(thing) == 3 and is_turn(thing[0]) and is_place(thing[1:])


def is_places(thing):
    """True if thing is a tuple of places, none or more, perhaps some of them twice."""
    return isinstance(thing, tuple) and all([is_place(item) for item in thing])


def is_many(number):
    """True if a standing may have so many places."""
    return LEAST_ROBOTS <= number <= MOST_ROBOTS


def are_unlike(places):
    return len(set(places)) == len(places)


def is_row(thing):
    """True if thing is a tuple of two to ten different places."""
    return isinstance(thing, tuple) and is_many(len(thing)) and is_places(thing) and are_unlike(thing)


def is_standing(thing):
    """True if thing is a row that is ascending."""
    return is_row(thing) and list(thing) == sorted(thing)


def is_large(thing):
    """True if thing is a standing of three places or more."""
    return is_standing(thing) and len(thing) > LEAST_ROBOTS


def is_view(thing):
    """True if thing is a standing with a robot on (0, 0)."""
    return is_standing(thing) and (0, 0) in thing


def is_figure(thing, many):
    """True if thing is a standing of so many places."""
    return is_standing(thing) and len(thing) == many
