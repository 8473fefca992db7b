"""Standings, motions and wrong values for the tests, and a second way to tell a class.

The samples are drawn with a fixed seed, so each run of the tests has the same ones.
"""

import random
from fractions import Fraction

BAR = ((0, 0), (1, 0), (2, 0))
ELL = ((0, 0), (0, 1), (1, 0))
SQUARE = ((0, 0), (0, 1), (1, 0), (1, 1))
ZIG = ((0, 0), (1, 0), (2, 1), (3, 1))
TEE = ((0, 0), (1, 0), (1, 1), (2, 0))
RING = ((0, 1), (1, 0), (1, 2), (2, 1))
PLUS = ((0, 1), (1, 0), (1, 1), (1, 2), (2, 1))
LINE = ((0, 0), (1, 0), (2, 0), (3, 0))
# Uneven, but with the centre (2, 0).
OFF = ((0, 0), (1, 0), (5, 0))
TEN = tuple((k, k * k) for k in range(10))
ELEVEN = tuple((k, k * k) for k in range(11))

# Held ones with far ones in two orbits: which one leads, and which is the first top, is to be chosen.
TIES = (
    ((0, 0), (0, 1), (3, 0), (3, 1)),
    ((0, 0), (0, 2), (3, 0), (3, 2)),
    ((0, 0), (0, 2), (4, 0), (4, 2)),
    ((0, 0), (0, 3), (1, 1), (1, 2), (2, 0), (2, 3)),
    ((0, 1), (0, 2), (1, 0), (1, 3), (2, 0), (2, 3), (3, 1), (3, 2)),
    ((0, 1), (0, 3), (1, 0), (1, 4), (3, 0), (3, 4), (4, 1), (4, 3)),
)

HUGE = 10**30
UNEVEN = ("uneven", 1, "")
STEPS = ((1, 0), (0, 1), (-1, 0), (0, -1))

MOTIONS = (
    (0, 0, 0),
    (1, 0, 0),
    (2, 0, 0),
    (3, 0, 0),
    (0, 4, -9),
    (1, 3, 0),
    (2, -5, 7),
    (3, -1, -2),
    (1, HUGE, -HUGE),
    (2, -HUGE, HUGE),
)


def quarter(point):
    return (-point[1], point[0])


def told_class(standing):
    """The class by the middle of all places as fractions, without the package."""
    many = len(standing)
    middle = (Fraction(sum(x for x, _ in standing), many), Fraction(sum(y for _, y in standing), many))
    seen = {(x - middle[0], y - middle[1]) for x, y in standing}
    once = {quarter(point) for point in seen}
    twice = {quarter(point) for point in once}
    fold = 4 if once == seen else 2 if twice == seen else 1
    if fold == 1:
        return UNEVEN
    whole = [entry.denominator == 1 for entry in middle]
    kind = "place" if all(whole) else "edge" if any(whole) else "cell"
    return ("pinned" if (0, 0) in seen else "held", fold, kind)


def kept_places(rng, many, twice, fold):
    """So many places that the turns of the fold about twice the centre keep, or None."""
    found = set()
    if many % 2:
        found.add((twice[0] // 2, twice[1] // 2))
    for _ in range(40):
        if len(found) >= many:
            break
        x, y = rng.randint(-4, 5), rng.randint(-4, 5)
        hat = (2 * x - twice[0], 2 * y - twice[1])
        for turn in range(4):
            if turn % 2 == 0 or fold == 4:
                found.add(((hat[0] + twice[0]) // 2, (hat[1] + twice[1]) // 2))
            hat = quarter(hat)
    return tuple(sorted(found)) if len(found) == many else None


def draw_standing(rng, many, told):
    """Any standing of so many places of this class."""
    centres = {"place": (2, -4), "cell": (1, 3), "edge": (3, 0), "": (0, 0)}
    while True:
        if told == UNEVEN:
            places = [(rng.randint(-6, 6), rng.randint(-6, 6)) for _ in range(many)]
            standing = tuple(sorted(set(places)))
        else:
            standing = kept_places(rng, many, centres[told[2]], told[1])
        if standing is not None and len(standing) == many and told_class(standing) == told:
            return standing


def classes_of(many):
    """All classes of so many places, ascending, as [35] tells them."""
    if many == 2:
        return [("held", 2, kind) for kind in ("cell", "edge", "place")]
    if many % 2:
        return [("pinned", fold, "place") for fold in (2, 4) if (many - 1) % fold == 0] + [UNEVEN]
    held = [("held", 2, kind) for kind in ("cell", "edge", "place")]
    if many % 4 == 0:
        held += [("held", 4, kind) for kind in ("cell", "place")]
    return held + [UNEVEN]


def centred_uneven():
    """Uneven standings that have a centre, of each kind."""
    return [
        OFF,
        ((0, 0), (1, 0), (2, 0), (5, 0)),
        ((0, 0), (0, 1), (1, 0), (5, 1)),
        ((0, 0), (0, 1), (1, 0), (3, 1)),
    ]


def spread_out(standing, times):
    """The standing with all entries so many times as large; 3 times changes no class."""
    return tuple((times * x, times * y) for x, y in standing)


def all_samples():
    """Standings of two to ten places of each class, uneven ones with and without a centre."""
    rng = random.Random(1961)
    found = [BAR, ELL, SQUARE, ZIG, TEE, RING, PLUS, LINE, TEN] + centred_uneven()
    for many in range(2, 11):
        for told in classes_of(many):
            found += [draw_standing(rng, many, told) for _ in range(2)]
            found.append(spread_out(draw_standing(rng, many, told), 3))
    return found


SAMPLES = all_samples()

# Entries of exactly 10 ** 30 in size, of both signs.
WIDEST = (
    ((-HUGE, -HUGE), (HUGE, HUGE)),
    ((-HUGE, HUGE), (HUGE, 1 - HUGE)),
    ((-HUGE, 0), (0, 0), (HUGE, 0)),
    ((-HUGE, -HUGE), (0, 1), (HUGE, HUGE)),
    ((-HUGE, -HUGE), (-HUGE, HUGE), (HUGE, -HUGE), (HUGE, HUGE)),
    ((-HUGE, 0), (0, -HUGE), (0, 0), (0, HUGE), (HUGE, 0)),
    ((-HUGE, HUGE), (1 - HUGE, HUGE), (HUGE - 1, -HUGE), (HUGE, -HUGE)),
)


def of_class(word, fold=None):
    """The samples of one class, by its word and perhaps its fold."""
    return [s for s in SAMPLES if told_class(s)[0] == word and fold in (None, told_class(s)[1])]


def shuffled_rows(seed):
    """A row for each sample, its places in some sequence."""
    rng = random.Random(seed)
    return [tuple(rng.sample(standing, len(standing))) for standing in SAMPLES]


# Values that are not of a kind; none is a kind of string where a string is due.
BAD_INTEGERS = [None, True, False, "1", (1,), [1]]
BAD_TURNS = BAD_INTEGERS + [-1, 4, HUGE, -HUGE]
BAD_PLACES = [
    None,
    True,
    3,
    "(0,0)",
    (),
    [],
    [0, 0],
    (0,),
    (0, 0, 0),
    (True, 0),
    (0, False),
    ("0", 0),
    (0, None),
    ((0, 0), (0, 0)),
]
BAD_MOTIONS = [
    None,
    1,
    "000",
    (),
    (0, 0),
    (0, 0, 0, 0),
    [0, 0, 0],
    (4, 0, 0),
    (-1, 0, 0),
    (True, 0, 0),
    (0, True, 0),
    (0, 0, False),
    (0, None, 0),
    (0, 0, "0"),
    (0, (0, 0)),
]
BAD_ROWS = [
    None,
    True,
    5,
    "(0,0) (1,0)",
    (),
    [],
    ((0, 0),),
    ELEVEN,
    [(0, 0), (1, 0)],
    ((0, 0), [1, 0]),
    ((0, 0), (0, 0)),
    ((0, 0), (1, 0), (0, 0)),
    ((0, 0), (True, 0)),
    ((0, False), (1, 0)),
    ((0, 0), (1, 0, 0)),
    ((0, 0), (1,)),
    ((0, 0), None),
    ((0, 0), "10"),
    (0, 1),
]
BAD_STANDINGS = BAD_ROWS + [((1, 0), (0, 0)), ((0, 0), (1, 0), (0, 1)), ((0, 1), (0, 0), (1, 0))]
BAD_TEXTS = [None, True, 0, ("o",), ["oo"], ((0, 0), (1, 0))]
