"""[2] and [12]: each parameter alone, in twos and all at once, by position and by name.

The first parameter that is not as stated is named, and what was passed stays as it was.
"""

import itertools
import unittest

from compassless.errors import NotUsable
from compassless.floorclasses import Motion
from compassless.ruletrees import HOUSE
from tests.interface import FUNCTIONS, listed
from tests.lotsamples import EAST
from tests.samples import (
    BAD_INTEGERS,
    BAD_MOTIONS,
    BAD_PLACES,
    BAD_ROWS,
    BAD_STANDINGS,
    BAD_TEXTS,
    BAD_TURNS,
    BAR,
    ELEVEN,
    ELL,
    LINE,
    PLUS,
    SQUARE,
    TEE,
    ZIG,
)

# True and False where 1 and 0 stand in a place of the standing, too.
NOT_IN_ZIG = BAD_PLACES + [(5, 5), (0, 1), (True, 0), (0, False), (False, False), ZIG]
NOT_FOUR = BAD_STANDINGS + [BAR, ((0, 0), (0, 1), (1, 0), (1, 1), (2, 2))]
NOT_PLACES = [None, True, 1, "", [], [(0, 0)], (0, 0), ((0, 0), [1, 0]), ((True, 0),), ((0, 0), None), (((0, 0),),)]
NOT_MOVES = [None, [], (None,), (((9, 9), (1, 0)),), (((0, 0), (0, 0)),), (((0, 0), (True, 0)),), ((0, 0), (1, 0))]
NOT_TABLE = [None, [], ((),), ((True,),), ((-1,),), ((0, 1), (0,)), ([0],), "", ((0,), (1,))]
NOT_TWO_PARTNERS = [None, [0, 1], (0,), (0, 0), (0, True), (1, 2), (0, 1, 2), "01"]
NOT_GOALS = NOT_PLACES + [((0, 0), (0, 0)), tuple((k, 0) for k in range(9))]
NOT_MANY = BAD_INTEGERS + [-1, 0, 1, 11]
NOT_SIZE = BAD_INTEGERS + [-1, 0, 13]
NOT_TOLD = [None, "uneven", ("uneven", True, ""), ["uneven", 1, ""], ("held", 4, "edge"), ("pinned", 2, "place"), ()]

NOT_NUMBER = BAD_INTEGERS + [-1]
NOT_LARGE = BAD_STANDINGS + [((0, 0), (0, 1))]
NOT_LARGE_FOUR = NOT_FOUR + [((0, 0), (0, 1))]
NOT_HELD = NOT_LARGE + [BAR, TEE, PLUS]
NOT_FOLD = BAD_INTEGERS + [0, 1, 3, 8]
HATS = ((-2, 0), (2, 0))
NOT_KEPT = [None, [], list(HATS), HATS[::-1], ((-2, 0),), ((0, 0),), HATS + ((4, 0),), ((-2, 0), (True, 0)), "", 7]

STANDING = (ZIG, BAD_STANDINGS)
FIGURE = (SQUARE, NOT_FOUR)
PLACE = ((3, -4), BAD_PLACES)
TURN = (2, BAD_TURNS)
MOTION = ((1, 3, 0), BAD_MOTIONS)
ROW = (((1, 0), (0, 0)), BAD_ROWS)
IN_ZIG = ((2, 1), NOT_IN_ZIG)
FIELD = [("many", 4, NOT_MANY), ("wide", 3, NOT_SIZE), ("high", 2, NOT_SIZE)]
TABLE = (((0, 1), (1, 0)), NOT_TABLE)
NUMBER = (3, NOT_NUMBER)
LARGE = (ZIG, NOT_LARGE)
# Stages 9 and 10: an uneven standing, a figure of as many places, three or more.
UNEVEN = (TEE, NOT_LARGE)
LARGE_FOUR = (SQUARE, NOT_LARGE_FOUR)


def params(**given):
    return [(name, good, bad) for name, (good, bad) in given.items()]


NOT_VIEW = BAD_STANDINGS + [((1, 0), (2, 0), (3, 1), (4, 1)), ((0, 1), (1, 0))]
NOT_TREES = [None, True, 1, "", (), [], ("num",), ("num", True), ("word", "east"), ("name", "go"), ["stay"], HOUSE[:3]]
NOT_WORDS = [None, True, 1, "", "east", "seen", "name", ("far",), ["far"], "Far"]
SAME = ("eq", ("num", 1), ("num", 1))
VIEW = (ZIG, NOT_VIEW)
HELD_BOTH = params(standing=LARGE, figure=LARGE_FOUR)
KEPT = params(fold=(2, NOT_FOLD), hats=(HATS, NOT_KEPT), goals=(((-4, 2), (4, -2)), NOT_KEPT + [((-1, 0), (1, 0)), ()]))
HELD = params(figure=(LINE, NOT_HELD), fold=(2, NOT_FOLD + [4]), stance=(1, NOT_NUMBER + [2]), many=NUMBER)

# Stages 15 to 18: rules, figures that may be None, and lots.
NAMED = ("plus", ("num", 1), ("name", "a"))
NAMES = ((("b", 2), ("a", -3)), [None, [], (), (("b", 2),), (("a", True),), (("a", 1), ("a", 1)), ("a", 1), (("a",),)])
FIVE_TIMES = ("times", ("times", ("times", ("num", 1), ("num", 1)), ("num", 1)), ("times", ("num", 1), ("num", 1)))
NOT_RULES = [None, True, 7, "", "else go east", (), list(EAST), EAST[:3], ("rule", (), (), ("along",)), ("num", 1)]
NOT_RULES += [("rule", (), (), ("along", FIVE_TIMES, ("times", ("num", 1), ("num", 1)))), ("rule", [], (), ("stay",))]
RULE = (EAST, NOT_RULES)
ANY_FIGURE = (None, BAD_STANDINGS[1:])
ROW4 = (ZIG[::-1], BAD_ROWS)
NOT_ROBOT = BAD_INTEGERS + [-1, 4]
NOT_LOT = [None, [], (None,), ((0, 0), (0, 1)), ((1, 0), (0, 0)), ((4, 0),), ((0, 4),), ((0, True),), "0", (0, 0)]
NOT_ANY_LOT = [wrong for wrong in NOT_LOT if wrong != ((4, 0),)]
LOT = (((0, 1), (2, 0)), NOT_LOT)
LOTS = ((((3, 1),), ()), [None, [], "", 0, ((0, 0),)] + [(wrong,) for wrong in NOT_LOT])
ANY_LOTS = ((((9, 1),), ()), [None, [], "", 0, ((0, 0),)] + [(wrong,) for wrong in NOT_ANY_LOT])
NOT_ROBOTS = [None, [], 0, (0, 0), (1, 0), (4,), (-1,), (True,), ("0",), ((0, 0),)]
# Stages 19 to 22.
CORNER = (((0, 0), 1), ((0, 1), 1), ((1, 0), 1))
HEAPED = (CORNER, [None, [], (), list(CORNER), CORNER[::-1], CORNER[:1], (((0, 0), 2), ((1, 0), 2)), (((0, 0), True),)])
NOT_PLACES_OF = [None, [], (None,), ((0, 1), (0, 0)), ((5, 5),), ((0, 0), (0, 0)), ((True, 0),), (0, 0), ""]
NOT_PAIRS = BAD_STANDINGS + [BAR, ZIG]
SLANT = (((0, 0), (1, 1)), NOT_PAIRS)
EVEN = (((0, 0), (4, 2)), NOT_PAIRS + [((0, 0), (1, 1))])
PAIR_FIGURE = (((0, 1), (3, 0)), NOT_PAIRS)
# Of another kind there is no way.
PAIR_GOAL = (((0, 1), (3, 0)), NOT_PAIRS + [((0, 0), (2, 0))])
PAIR_LOTS = ((((0, 1),), ()), [None, [], "", ((0, 0),), (((2, 0),),), (((0, 4),),), (((1, 0), (0, 0)),)])
G = ((3, -1), BAD_PLACES + [(0, 0)])
SEEN = ((5, 1), BAD_PLACES)
TAKEN = BAD_INTEGERS + [-1, 9]
NOT_SHORT = BAD_ROWS + [ELEVEN[:5], ELEVEN[:10]]
SHORT = (ZIG[::-1], NOT_SHORT)
JUDGED = params(row=SHORT, rule=(("rule", (), (), ("stay",)), NOT_RULES), figure=FIGURE)
NEXTS = params(row=(ELL[::-1], NOT_SHORT + [ZIG]), rule=RULE, figure=(BAR, [None] + BAD_STANDINGS + [ZIG]))
RULED_ROW = params(row=ROW4, rule=RULE, figure=ANY_FIGURE)
RULED = params(standing=STANDING, rule=RULE, figure=ANY_FIGURE)
READING = params(rule=RULE, view=VIEW, figure=ANY_FIGURE)

# For each function its parameters in their order: a value as stated, and others that are not.
CALLS = {
    "turned": params(turn=TURN, place=PLACE),
    "cone_turn": params(place=((3, -4), BAD_PLACES + [(0, 0)])),
    "moved": params(motion=MOTION, place=PLACE),
    "behind": params(motion=MOTION, other=MOTION),
    "back": params(motion=MOTION),
    "carried": params(motion=MOTION, standing=STANDING),
    "carried_row": params(motion=MOTION, row=ROW),
    "motion_of": params(row=ROW, other=ROW),
    "standing_by": params(row=ROW),
    "box_of": params(standing=STANDING),
    "side_of": params(standing=STANDING),
    "read_drawing": params(text=("oo", BAD_TEXTS)),
    "show_drawing": params(standing=STANDING),
    "place_line": params(row=ROW),
    "read_places": params(text=("(0,0) (1,0)", BAD_TEXTS)),
    "sum_of": params(standing=STANDING),
    "twice_centre": params(standing=STANDING),
    "about": params(twice=PLACE, turn=TURN, place=PLACE),
    "kept_by": params(standing=STANDING, turn=TURN),
    "fold_of": params(standing=STANDING),
    "kind_of": params(standing=STANDING),
    "class_of": params(standing=STANDING),
    "orbits_of": params(standing=STANDING),
    "orbit_of": params(standing=STANDING, place=IN_ZIG),
    "shifted": params(standing=STANDING),
    "form_of": params(standing=STANDING),
    "placer_of": params(standing=STANDING),
    "alike": params(standing=STANDING, other=(ELL, BAD_STANDINGS)),
    "carrier_of": params(standing=STANDING, other=(ELL, BAD_STANDINGS)),
    "view_of": params(standing=STANDING, place=IN_ZIG, frame=TURN),
    "lookalikes": params(standing=STANDING, place=IN_ZIG),
    "weight_of": params(standing=STANDING, place=IN_ZIG),
    "far_ones": params(standing=STANDING),
    "leader_of": params(standing=STANDING),
    "hat_of": params(standing=STANDING, place=IN_ZIG),
    "hats_of": params(standing=STANDING),
    "place_by": params(standing=STANDING, hat=((5, 1), BAD_PLACES + [(5, 2), (4, 1)])),
    "after_moves": params(standing=STANDING, moves=((((0, 0), (0, 1)),), NOT_MOVES)),
    "fits": params(standing=STANDING, figure=FIGURE),
    "why_of": params(standing=STANDING, figure=FIGURE),
    "foe_frames": params(standing=STANDING),
    "bar_paper": params(standing=STANDING, figure=FIGURE),
    "fit_both": params(standing=STANDING, other=FIGURE),
    "classes_by": params(many=(4, NOT_MANY)),
    "census": FIELD,
    "count_of": FIELD + params(told=(("uneven", 1, ""), NOT_TOLD)),
    "distance": params(place=PLACE, other=PLACE),
    "road": params(place=PLACE, other=PLACE),
    "other_road": params(place=PLACE, other=PLACE),
    "last_on": params(way=(ELL, NOT_PLACES), places=(BAR, NOT_PLACES)),
    "total_of": params(table=TABLE, partners=((1, 0), NOT_TWO_PARTNERS)),
    "distance_table": params(places=(ELL, NOT_GOALS), goals=(BAR, NOT_GOALS + [ZIG])),
    "least_total": params(table=TABLE),
    "least_partners": params(table=TABLE),
    "prices_of": params(table=TABLE, partners=((1, 0), NOT_TWO_PARTNERS)),
    "fewest": params(standing=(ZIG, BAD_STANDINGS + [ELEVEN[:7]]), figure=FIGURE),
    "next_move": params(standing=(ZIG, BAD_STANDINGS + [ELEVEN[:9]]), goals=FIGURE),
    "steered": params(standing=(ZIG, BAD_STANDINGS + [ELEVEN[:9]]), goals=FIGURE),
    "orbits_about": params(fold=(2, NOT_FOLD), hats=(HATS, NOT_KEPT)),
    "orbit_table": KEPT,
    "orbit_move": KEPT,
    "after_orbit": KEPT,
    "top_of": params(figure=LARGE),
    "body_of": params(figure=LARGE),
    "home_of": params(figure=LARGE, many=NUMBER),
    "near_of": params(standing=UNEVEN, figure=LARGE_FOUR),
    "picture_of": params(standing=UNEVEN),
    "want_parts": params(standing=UNEVEN, side=NUMBER),
    "want_of": params(standing=UNEVEN, side=NUMBER),
    "wished_of": params(standing=UNEVEN, figure=LARGE_FOUR),
    "wished_y": params(standing=UNEVEN, figure=LARGE_FOUR),
    "wished_table": params(standing=UNEVEN, figure=LARGE_FOUR),
    "uneven_move": params(standing=UNEVEN, figure=LARGE_FOUR),
    "uneven_left": params(standing=UNEVEN, figure=LARGE_FOUR),
    "uneven_most": params(many=NUMBER, side=NUMBER, other=NUMBER),
    "stances_of": HELD[:2],
    "tops_of": HELD,
    "stance_body": HELD[:3],
    "held_home": HELD,
    "near_held": HELD_BOTH,
    "held_picture": HELD_BOTH,
    "held_want": HELD_BOTH,
    "held_table": HELD_BOTH,
    "held_moves": HELD_BOTH,
    "pinned_depth": params(standing=(PLUS, BAD_STANDINGS)),
    "pinned_moves": params(standing=(PLUS, BAD_STANDINGS)),
    "house_moves": params(standing=STANDING, figure=FIGURE),
    "house_step": params(view=VIEW, figure=FIGURE),
    "left_of": params(standing=STANDING, figure=FIGURE),
    "most_of": params(standing=STANDING, figure=FIGURE),
    "words_of": params(text=("go east", BAD_TEXTS)),
    "read_rule": params(text=("else go east", BAD_TEXTS)),
    "show_num": params(num=(("num", 1), NOT_TREES + [("not", SAME)])),
    "show_test": params(test=(SAME, NOT_TREES + [("neg", ("num", 1))])),
    "show_rule": params(rule=(HOUSE, NOT_TREES + [SAME, ("rule", (), (), ("house", 1))])),
    "word_of": params(word=("far", NOT_WORDS), view=VIEW, figure=(ELL, BAD_STANDINGS[1:])),
    "number_of": params(num=(NAMED, NOT_TREES + [SAME]), names=NAMES, view=VIEW, figure=ANY_FIGURE),
    "holds": params(test=(("eq", NAMED, NAMED), NOT_TREES + [NAMED]), names=NAMES, view=VIEW, figure=ANY_FIGURE),
    "names_by": READING,
    "way_of": READING,
    "step_of": READING,
    "all_lot": params(many=NUMBER, frame=TURN),
    "lessened": params(turn=TURN, lots=ANY_LOTS),
    "lot_line": params(lot=(((9, 1),), NOT_ANY_LOT)),
    "lots_line": params(lots=ANY_LOTS),
    "read_lots": params(many=NUMBER, text=("0 2:1; -", BAD_TEXTS)),
    "step_in": RULED_ROW + params(robot=(3, NOT_ROBOT), frame=TURN),
    "tick": RULED_ROW + params(lot=LOT),
    "run_of": RULED_ROW + params(lots=LOTS),
    "foe_lots": params(row=ROW4, figure=FIGURE, many=NUMBER),
    "kept_run": params(row=ROW4, rule=RULE, figure=FIGURE, many=NUMBER),
    "moves_of": RULED,
    "single_of": RULED,
    "course_of": params(standing=STANDING, rule=RULE, figure=FIGURE, many=NUMBER),
    "foretold": params(standing=(TEE, BAD_STANDINGS), figure=FIGURE),
    "needed": params(row=(TEE[::-1], BAD_ROWS), figure=FIGURE),
    "stopped_at": params(row=(TEE[::-1], BAD_ROWS), figure=FIGURE, robots=((0, 3), NOT_ROBOTS)),
    "late_start": params(row=ROW4),
    "pushed": params(row=ROW4, robot=(3, NOT_ROBOT), place=((7, 7), BAD_PLACES + [(1, 0)])),
    "joined": params(row=(ZIG[::-1], BAD_ROWS + [ELEVEN[:10]]), place=((7, 7), BAD_PLACES + [(1, 0)])),
    "dropped": params(row=(ZIG[::-1], BAD_ROWS + [ELEVEN[:2]]), robot=(3, NOT_ROBOT)),
    "heap_of": params(heaped=HEAPED),
    "fold_about": params(heaped=HEAPED, place=PLACE),
    "heap_form": params(heaped=HEAPED, place=PLACE),
    "inward": params(place=PLACE, other=((5, 5), BAD_PLACES + [(3, -4)])),
    "meets": params(standing=STANDING),
    "meet_moves": params(heaped=HEAPED),
    "meet_tick": params(heaped=HEAPED, places=(((0, 1), (1, 0)), NOT_PLACES_OF)),
    "meet_left": params(heaped=HEAPED),
    "meet_most": params(standing=(ELL, BAD_STANDINGS)),
    "meet_foe": params(row=ROW4, rule=RULE, many=NUMBER),
    "span_of": params(standing=SLANT),
    "sector_of": params(standing=SLANT, figure=PAIR_FIGURE),
    "in_sector": params(g=G, place=PLACE),
    "sector_turn": params(g=G, place=((3, -4), BAD_PLACES + [(0, 0)])),
    "pair_way": params(standing=SLANT, figure=PAIR_FIGURE),
    "meet_way": params(standing=SLANT),
    "pair_step": params(standing=SLANT, figure=PAIR_GOAL, seen=(SEEN[0], SEEN[1] + [(0, 0)]), taken=(0, TAKEN)),
    "meet_step": params(standing=EVEN, seen=SEEN, taken=(0, TAKEN)),
    "pair_run": params(standing=SLANT, figure=PAIR_GOAL, lots=PAIR_LOTS),
    "meet_run": params(standing=EVEN, lots=PAIR_LOTS),
    "stand_of": params(row=SHORT),
    "stand_turn": params(row=SHORT),
    "is_done": params(row=SHORT, figure=FIGURE),
    "nexts_of": NEXTS,
    "stands_after": JUDGED,
    "reach_of": JUDGED + params(limit=(9, BAD_INTEGERS + [0, -1])),
    "verdict_of": JUDGED + params(limit=(9, BAD_INTEGERS + [0, -1])),
    "rounds_of": params(many=(2, NOT_MANY), lots=PAIR_LOTS),
    "round_lots": params(many=(2, NOT_MANY), rounds=NUMBER),
}

# These take any thing, or any number of arguments, or raise later, and have tests of their own.
ELSEWHERE = (
    "is_place is_step is_motion is_row is_standing is_table is_partners is_kept "
    "is_num is_test is_way is_rule lets_row lets_bar lets_prices lets_rule "
    "standing_of route_of fit_table field_standings is_lot is_event is_state lets_log happen "
    "is_heaped heaped_by lets_verdict open_desk"
).split()


class WrongInputs(unittest.TestCase):
    def refused(self, call, word, names, values):
        """The call names this parameter, by position and by name, and changes nothing."""
        shown = repr(values)
        named = dict(reversed(list(zip(names, values))))
        for given, more in ((values, {}), ((), named), (values[:1], dict(zip(names[1:], values[1:])))):
            with self.assertRaises(NotUsable, msg=shown) as caught:
                call(*given, **more)
            self.assertEqual(vars(caught.exception), {"word": word, "at": -1}, shown)
            self.assertIs(type(caught.exception), NotUsable)
        self.assertEqual(repr(values), shown)

    def test_every_function_is_there(self):
        heads = [head for found in FUNCTIONS.values() for head in found]
        for head in heads:
            name, _, rest = head.partition("(")
            if name in CALLS:
                names = ", ".join(param for param, _, _ in CALLS[name])
                self.assertEqual(rest, names + ")")
            else:
                self.assertIn(name, ELSEWHERE)

    def test_as_stated(self):
        for name, wanted in CALLS.items():
            call = listed()[name]
            goods = {param: good for param, good, _ in wanted}
            shown = repr(goods)
            first = call(*goods.values())
            self.assertEqual(repr(call(**goods)), repr(first))
            self.assertEqual(repr(goods), shown)

    def test_alone(self):
        for name, wanted in CALLS.items():
            call = listed()[name]
            names = [param for param, _, _ in wanted]
            for k, (param, _, bads) in enumerate(wanted):
                for bad in bads + [Motion(0, 0, 0)]:
                    values = [good for _, good, _ in wanted]
                    values[k] = bad
                    with self.subTest(f"{name} {param}"):
                        self.refused(call, param, names, values)

    def test_in_twos(self):
        for name, wanted in CALLS.items():
            call = listed()[name]
            names = [param for param, _, _ in wanted]
            for i, j in itertools.combinations(range(len(wanted)), 2):
                for one, two in itertools.product(wanted[i][2], wanted[j][2][:6]):
                    values = [good for _, good, _ in wanted]
                    values[i], values[j] = one, two
                    with self.subTest(f"{name} {names[i]} {names[j]}"):
                        self.refused(call, names[i], names, values)

    def test_all_at_once(self):
        for name, wanted in CALLS.items():
            for bad in wanted[0][2]:
                values = [bad] + [bads[0] for _, _, bads in wanted[1:]]
                self.refused(listed()[name], wanted[0][0], [param for param, _, _ in wanted], values)

    def test_checkers_refuse_their_other_parameters(self):
        call = listed()["lets_bar"]
        names = ["standing", "figure", "thing"]
        for bad in BAD_STANDINGS:
            self.refused(call, "standing", names, [bad, bad, None])
        for bad in NOT_FOUR:
            self.refused(call, "figure", names, [ZIG, bad, None])
        call = listed()["lets_log"]
        names = [name for name, _, _ in CALLS["run_of"]] + ["thing"]
        for k, (name, _, bads) in enumerate(CALLS["run_of"]):
            for bad in bads:
                goods = [good for _, good, _ in CALLS["run_of"]]
                self.refused(call, name, names, goods[:k] + [bad] + [None] * (4 - k))

    def test_results_are_tuples(self):
        for name, wanted in CALLS.items():
            found = listed()[name](*[good for _, good, _ in wanted])
            self.assertNotIsInstance(found, (list, dict, set))
            if isinstance(found, tuple):
                self.check_tuples(found)

    def check_tuples(self, found):
        for part in found:
            self.assertIn(type(part), (int, str, bool, tuple, type(None)))
            if isinstance(part, tuple):
                self.check_tuples(part)


if __name__ == "__main__":
    unittest.main()
