"""[95] and [96]: the desk, its lines, their answers and errors."""

import random
import unittest

from compassless.desk import Desk, open_desk
from compassless.drawings import show_drawing
from compassless.errors import (
    Clash,
    FloorError,
    InvalidLine,
    InvalidRule,
    InvalidText,
    NoName,
    NotFit,
    NothingToUndo,
    NotUneven,
    NotUsable,
    TooMany,
)
from compassless.fitting import fits, why_of
from compassless.floorclasses import Motion
from compassless.folds import class_of
from compassless.house import house_moves
from compassless.lefts import left_of, most_of
from compassless.lots import lot_line
from compassless.meetings import meets
from compassless.needs import needed
from compassless.placetexts import place_line
from compassless.readings import read_rule
from compassless.routes import route_of
from compassless.ruletrees import HOUSE
from compassless.showing import show_rule
from compassless.standings import standing_by
from compassless.ticks import tick
from compassless.verdicts import verdict_of
from tests.lotsamples import RULES, draw_lot, draw_row
from tests.rulesamples import draw_rule
from tests.samples import BAD_TEXTS, BAR, ELL, LINE, PLUS, RING, SAMPLES, SQUARE, TEE, TEN, ZIG

FAR = ((2, 0), (0, 1), (0, 0))
ROWS = {"bar": BAR, "ell": ELL, "square": SQUARE, "zig": ZIG[::-1], "tee": TEE, "far": FAR, "ten": TEN, "pair": ((0, 0), (2, 0))}
ROWS.update({"line": LINE, "plus": PLUS, "ring": RING})
TEXTS = {"go": "else go house", "east": "else go east", "none": "", "two": "let a = 1\nwhen a < far go stay\nelse go west"}

# One line of each kind that the desk of the tests does.
LINES = {
    "draw": "draw new o./oo",
    "row": "row new (0,0) (5,-1) (2,2)",
    "rule": "rule new when far < 3 go east",
    "show": "show zig",
    "places": "places far",
    "class": "class bar",
    "meets": "meets ring",
    "fits": "fits zig square",
    "why": "why zig square",
    "house": "house zig square",
    "left": "left zig square",
    "most": "most zig square",
    "needed": "needed far ell",
    "verdict": "verdict far ell go 9",
    "route": "route zig square zig line tee ring",
    "tick": "tick far ell go 0:1 2",
    "push": "push far 0 (7,7)",
    "join": "join far (7,7)",
    "drop": "drop far 2",
    "undo": "undo",
}
CHANGES = ("draw", "row", "rule", "tick", "push", "join", "drop")


def made():
    lines = [f"row {name} {place_line(row)}" for name, row in ROWS.items()]
    lines += [f"rule {name} {text}".strip().replace("\n", ";") for name, text in TEXTS.items()]
    return open_desk("\n".join(lines))


class DeskCase(unittest.TestCase):
    def refused(self, desk, asked, error, /, **fields):
        """The error and its fields; the desk stays as it was."""
        before = desk.saved(), desk.names()
        with self.assertRaises(error, msg=asked) as caught:
            desk.do(asked)
        self.assertEqual((type(caught.exception), vars(caught.exception)), (error, fields), asked)
        self.assertEqual((desk.saved(), desk.names()), before)


class Answers(DeskCase):
    def asked(self, line, due):
        desk = made()
        before = desk.saved()
        self.assertEqual(desk.do(line), due, line)
        self.assertEqual(desk.saved(), before)
        self.refused(desk, "undo", NothingToUndo, steps=1)

    def test_of_one(self):
        for name, row in ROWS.items():
            standing = standing_by(row)
            if name != "ten":
                self.asked("show " + name, show_drawing(standing).replace("\n", "/"))
            self.asked("places " + name, place_line(row))
            self.asked("class " + name, " ".join(str(entry) for entry in class_of(standing) if entry != ""))
            self.asked("meets " + name, "yes" if meets(standing) else "no")
        self.asked("show zig", "..oo/oo..")
        self.asked("places zig", "(3,1) (2,1) (1,0) (0,0)")
        self.asked("class ell", "uneven 1")
        self.asked("class bar", "pinned 2 place")

    def test_of_two(self):
        for first in ROWS:
            for second in ROWS:
                s, f = standing_by(ROWS[first]), standing_by(ROWS[second])
                if len(s) == len(f):
                    self.asked(f"fits {first} {second}", "yes" if fits(s, f) else "no")
                    self.asked(f"why {first} {second}", " ".join(map(str, why_of(s, f))))
                    moves = ["".join(f"({x},{y}) " for x, y in (p, *v)).strip() for p, v in house_moves(s, f)]
                    self.asked(f"house {first} {second}", "; ".join(moves) or "nobody")
                    if fits(s, f):
                        self.asked(f"left {first} {second}", " ".join(map(str, left_of(s, f))))
                        self.asked(f"most {first} {second}", str(most_of(s, f)))
        self.asked("why zig square", "kept 2 cell")
        self.asked("why ell ell", "done")
        self.asked("house zig square", "(0,0) (-1,0); (3,1) (1,0)")
        self.asked("house bar ell", "(1,0) (0,-1) (0,1)")
        self.asked("house square zig", "nobody")
        self.asked("left zig square", "2 1 1 0 2")
        self.asked("most zig square", "384")
        self.asked("most ell ell", "0")

    def test_needed(self):
        # Robots of the row, not of its standing.
        self.asked("needed far ell", "0")
        self.asked("needed ell far", " ".join(map(str, needed(ELL, standing_by(FAR)))))
        self.asked("needed zig zig", "nobody")
        self.asked("needed tee zig", " ".join(map(str, needed(TEE, ZIG))))

    def test_routes(self):
        self.asked("route zig", "way")
        self.asked("route zig square zig", "way 1 0")
        self.asked("route square square zig", "start 1")
        self.asked("route tee zig ring", "apart 0 1")
        found = route_of(TEE, ZIG, SQUARE, LINE, TEE, RING)
        self.asked("route tee zig square line tee ring", " ".join(map(str, found)))
        self.asked("route tee tee tee tee tee tee", "way 0 1 2 3 4")

    def test_verdicts(self):
        self.asked("verdict far ell go 9", "yes 2")
        self.asked("verdict ell ell go 1", "yes 1")
        self.asked("verdict square zig go 1", "no ring 1")
        desk = made()
        desk.do("row one (0,0) (1,0)")
        desk.do("rule bump when far = 1 go along(sumx, sumy)")
        desk.do("rule jump when far = 2 and done = 1 go along(sumx, sumy)")
        self.assertEqual(desk.do("verdict one pair bump 9"), "no clash 1")
        self.assertEqual(desk.do("verdict pair pair jump 9").split()[:2], ["no", "leaves"])
        # The lots and the ring's.
        desk.do("rule round when 1 < far go along(sumx, sumy)")
        answer = desk.do("verdict far bar round 99")
        paper = verdict_of(FAR, read_rule("when 1 < far go along(sumx, sumy)"), BAR, 99)
        self.assertEqual(answer, " ".join(["no", paper[1], str(sum(len(lots) for lots in paper[2:]))]))

    def test_rows_or_standings(self):
        # A row in another sequence is as good where a standing is due.
        desk = made()
        desk.do("row turned (1,1) (0,0) (1,0) (0,1)")
        for line in ("fits zig turned", "why zig turned", "house zig turned", "left zig turned", "verdict turned zig go 9"):
            self.assertEqual(desk.do(line), desk.do(line.replace("turned", "square")))
        self.assertEqual((desk.do("class turned"), desk.do("show turned")), ("held 4 cell", "oo/oo"))


class Changes(DeskCase):
    def test_made(self):
        desk = Desk()
        self.assertEqual((desk.saved(), desk.names()), ("", ()))
        self.assertEqual(desk.do("draw ell o./oo"), "ell 3")
        self.assertEqual(desk.do("draw gap .o.///o"), "gap 2")
        self.assertEqual(desk.do("row far (2,0) (0,1) (0,0)"), "far 3")
        self.assertEqual(desk.do("rule go else go house"), "go 0")
        self.assertEqual(desk.do("rule a1 when 1=1 go east;;when 2 < 3 go west"), "a1 2")
        self.assertEqual([desk.do("rule no"), desk.do("rule none ")], ["no 0", "none 0"])
        self.assertEqual(desk.names(), ("a1", "ell", "far", "gap", "go", "no", "none"))
        saved = ["rule a1 when 1 = 1 go east; when 2 < 3 go west", "row ell (0,0) (0,1) (1,0)"]
        saved += ["row far (2,0) (0,1) (0,0)", "row gap (0,0) (1,3)", "rule go else go house", "rule no", "rule none"]
        self.assertEqual(desk.saved(), "\n".join(saved))
        self.assertEqual(desk.do("show gap"), ".o/../../o.")

    def test_nothing_else_has_the_name(self):
        desk = made()
        self.assertEqual(desk.do("rule far else go west"), "far 0")
        self.refused(desk, "places far", NoName, name="far")
        self.assertEqual(desk.do("row go (0,0) (0,1)"), "go 2")
        self.refused(desk, "tick zig square go 0", NoName, name="go")
        self.assertEqual(desk.do("tick zig square far 0:2"), "(4,1) (2,1) (1,0) (0,0)")
        self.assertEqual([desk.do("undo") for _ in range(3)], ["tick zig square far 0:2", "row go (0,0) (0,1)", "rule far else go west"])
        self.assertEqual(desk.saved(), made().saved())

    def test_changed(self):
        desk = made()
        self.assertEqual(desk.do("tick far ell go 0:1 2"), "(1,0) (0,1) (0,0)")
        self.assertEqual(desk.do("places far"), "(1,0) (0,1) (0,0)")
        self.assertEqual(desk.do("tick far ell go -"), "(1,0) (0,1) (0,0)")
        self.assertEqual(desk.do("push far 0 (7,-7)"), "(7,-7) (0,1) (0,0)")
        self.assertEqual(desk.do("push far 0 (7,-7)"), "(7,-7) (0,1) (0,0)")
        self.assertEqual(desk.do("join far (3,3)"), "(7,-7) (0,1) (0,0) (3,3)")
        self.assertEqual(desk.do("drop far 1"), "(7,-7) (0,0) (3,3)")
        # Any figure, of another number of places too.
        self.assertEqual(desk.do("tick far square east 0 1 2:1"), "(8,-7) (1,0) (3,2)")
        lines = ["tick far square east 0 1 2:1", "drop far 1", "join far (3,3)", "push far 0 (7,-7)", "push far 0 (7,-7)"]
        self.assertEqual([desk.do("undo") for _ in range(5)], lines)
        self.assertEqual(desk.do("places far"), "(1,0) (0,1) (0,0)")
        self.assertEqual([desk.do("undo") for _ in range(2)], ["tick far ell go -", "tick far ell go 0:1 2"])
        self.assertEqual(desk.saved(), made().saved())
        self.refused(desk, "undo", NothingToUndo, steps=1)

    def test_ticks(self):
        rng = random.Random(96)
        for _ in range(60):
            row, rule = draw_row(rng), rng.choice(RULES)
            figure, lot = rng.choice(SAMPLES), draw_lot(rng, len(row))
            desk = Desk()
            desk.do("row s " + place_line(row))
            desk.do("row f " + place_line(figure[::-1]))
            desk.do("rule r " + show_rule(rule).replace("\n", ";"))
            line = "tick s f r " + lot_line(lot)
            try:
                come = tick(row, rule, figure, lot)
            except Clash as clash:
                self.refused(desk, line, Clash, robot=clash.robot)
            else:
                self.assertEqual(desk.do(line), place_line(come))
                self.assertEqual(desk.do("places s"), place_line(come))

    def test_undo(self):
        desk = Desk()
        self.refused(desk, "undo", NothingToUndo, steps=1)
        log = []
        for line in ("draw a oo", "row b (0,0) (4,4)", "rule a else go east", "tick b b a 0", "join b (9,9)", "drop b 0", "push b 0 (1,0)"):
            log.append((desk.saved(), line))
            desk.do(line)
        for before, line in reversed(log):
            self.assertEqual((desk.do("undo"), desk.saved()), (line, before))
        self.assertEqual(desk.names(), ())
        self.refused(desk, "undo", NothingToUndo, steps=1)
        desk.do("draw a oo")
        self.assertEqual((desk.do("undo"), desk.names()), ("draw a oo", ()))


def in_words(line):
    return line.split(" ")


def fits_there(kind, word):
    """Whether the word may stand for this sign of [95]."""
    small, digits = "abcdefghijklmnopqrstuvwxyz", "0123456789"
    if kind == "NAME":
        return 1 <= len(word) <= 12 and word[0] in small and all(sign in small + digits for sign in word)
    if kind == "I":
        return word in {str(number) for number in range(1000)}
    if kind == "PLACE":
        parts = word[1:-1].split(",")
        if word[:1] + word[-1:] != "()" or len(parts) != 2:
            return False
        return all(part.strip("-").isdigit() and str(int(part)) == part for part in parts if part.count("-") < 2)
    return kind != "LOT" or (word != "" and ";" not in word)


GRAMMAR = {
    "draw": "NAME DRAWING", "row": "NAME PLACES*", "rule": "NAME TEXT*?", "show": "NAME", "places": "NAME", "class": "NAME",
    "meets": "NAME", "fits": "NAME NAME", "why": "NAME NAME", "house": "NAME NAME", "left": "NAME NAME", "most": "NAME NAME",
    "needed": "NAME NAME", "verdict": "NAME NAME NAME I", "route": "NAME NAME? NAME? NAME? NAME? NAME?",
    "tick": "NAME NAME NAME LOT*", "push": "NAME I PLACE", "join": "NAME PLACE", "drop": "NAME I", "undo": "",
}


def expected_wrong(line):
    """The first word that can't stand there, or how many words there are if the line ends too soon; or None."""
    head, *words = in_words(line)
    if head not in GRAMMAR:
        return 0
    kinds = GRAMMAR[head].split()
    for k, word in enumerate(words):
        kind = kinds[k] if k < len(kinds) else kinds[-1] if kinds and "*" in kinds[-1] else None
        if kind is None or not fits_there(kind.strip("*?"), word):
            return k + 1
    return len(words) + 1 if any("?" not in kind for kind in kinds[len(words):]) else None


class Lines(DeskCase):
    def test_lines_are_done(self):
        for head, line in LINES.items():
            desk = made()
            desk.do("draw old oo")
            self.assertIsInstance(desk.do(line), str)
            self.assertEqual((in_words(line)[0], expected_wrong(line)), (head, None))
            if head in CHANGES:
                self.assertEqual(desk.do("undo"), line)
            if head != "undo":
                self.assertEqual(desk.do("undo"), "draw old oo")

    def test_each_end(self):
        # The line ends behind each number of words.
        for line in LINES.values():
            words = in_words(line)
            for k in range(1, len(words)):
                self.wrong(" ".join(words[:k]))
        for head in LINES:
            self.wrong(head)
        for line, k in (("row a", 2), ("row", 1), ("draw a", 2), ("rule", 1), ("tick far ell go", 4), ("route", 1), ("undo", None)):
            self.assertEqual(expected_wrong(line), k)

    def test_each_word_empty_and_one_more(self):
        for line in LINES.values():
            words = in_words(line)
            for k in range(len(words)):
                self.wrong(" ".join(words[:k] + [""] + words[k + 1:]))
                self.wrong(" ".join(words[:k] + [""] + words[k:]))
            for word in ("a", "", "0", "(1,1)", "undo"):
                self.wrong(line + " " + word)

    def test_each_word_wrong(self):
        words_of = ["A", "a_", "1a", "abcdefghijklm", "abcdefghijkl", "a1", "0", "00", "01", "007", "999", "1000", "-1", "+1", ""]
        words_of += ["(1,1)", "(01,1)", "(-0,1)", "(1, 1)", "1,1", "(1,1", "(1)", "(1,1,1)", "(+1,1)", "x;", ";", "0;1", "0:1", "()"]
        for line in LINES.values():
            words = in_words(line)
            for k in range(len(words)):
                for word in words_of:
                    self.wrong(" ".join(words[:k] + [word] + words[k + 1:]))

    def wrong(self, line):
        """InvalidLine as expected; a line that fits the grammar is done or refused for another reason."""
        due, desk = expected_wrong(line), made()
        if due is not None:
            self.refused(desk, line, InvalidLine, word=due)
            return
        try:
            self.assertIsInstance(desk.do(line), str)
        except InvalidLine:
            self.fail(line)
        except FloorError:
            self.assertEqual(desk.saved(), made().saved())

    def test_first_words(self):
        for line in ("", " ", "Undo", " undo", "undone", "names", "saved", "do", "draws a oo", "?", "ten", "verdicts a b c 1"):
            self.refused(made(), line, InvalidLine, word=0)
        self.refused(made(), "undo ", InvalidLine, word=1)
        self.refused(made(), "undo undo", InvalidLine, word=1)
        # The first one counts, also where a later one is wrong or nothing has the name.
        self.refused(made(), "fits nobody A", InvalidLine, word=2)
        self.refused(made(), "push nobody 0", InvalidLine, word=3)
        self.refused(made(), "verdict A b 1 x", InvalidLine, word=1)
        self.refused(made(), "tick zig square go 0 ", InvalidLine, word=5)
        self.refused(made(), "tick zig square go ", InvalidLine, word=4)
        self.refused(made(), "tick zig square go 0; 1", InvalidLine, word=4)
        self.refused(made(), "route zig zig zig zig zig zig zig", InvalidLine, word=7)

    def test_names(self):
        for line, name in (
            ("show x", "x"),
            ("places go", "go"),
            ("class zi", "zi"),
            ("fits x y", "x"),
            ("fits zig y", "y"),
            ("why zig go", "go"),
            ("needed go x", "go"),
            ("verdict x y z 9", "x"),
            ("verdict zig y z 9", "y"),
            ("verdict zig square z 9", "z"),
            ("verdict zig square ell 9", "ell"),
            ("verdict zig go ell 9", "go"),
            ("route zig square x y", "x"),
            ("tick x y z 0", "x"),
            ("tick zig square zig 99", "zig"),
            ("push x 999 (0,0)", "x"),
            ("join east (0,0)", "east"),
            ("drop x 0", "x"),
        ):
            self.refused(made(), line, NoName, name=name)

    def test_own_errors(self):
        desk = made()
        for line, error, fields in (
            ("draw a ", InvalidText, {"line": 0, "field": 0}),
            ("draw a o/x", InvalidText, {"line": 1, "field": 0}),
            ("draw a o./..", InvalidText, {"line": 2, "field": 0}),
            ("row a ", InvalidText, {"line": 0, "field": 0}),
            ("row a (0,0)", InvalidText, {"line": 0, "field": 1}),
            ("row a (0,0)  (1,0)", InvalidText, {"line": 0, "field": 1}),
            ("row a (0,0) (1,0) (0,0)", InvalidText, {"line": 0, "field": 2}),
            ("rule a go", InvalidRule, {"line": 0, "word": 0, "reason": "word"}),
            ("rule a else go east; go", InvalidRule, {"line": 1, "word": 0, "reason": "word"}),
            ("rule a ?", InvalidRule, {"line": 0, "word": 0, "reason": "sign"}),
            ("fits zig ell", NotUsable, {"word": "figure", "at": -1}),
            ("why zig ell", NotUsable, {"word": "figure", "at": -1}),
            ("house ell zig", NotUsable, {"word": "figure", "at": -1}),
            ("left square zig", NotFit, {"told": ("held", 4, "cell")}),
            ("most square zig", NotFit, {"told": ("held", 4, "cell")}),
            ("most zig ell", NotUsable, {"word": "figure", "at": -1}),
            ("needed bar ell", NotUneven, {"told": ("pinned", 2, "place")}),
            ("needed bar zig", NotUsable, {"word": "figure", "at": -1}),
            ("verdict ten zig go 1", NotUsable, {"word": "row", "at": -1}),
            ("verdict ell zig go 0", NotUsable, {"word": "figure", "at": -1}),
            ("verdict ell ell go 0", NotUsable, {"word": "limit", "at": -1}),
            ("verdict ell ell east 7", TooMany, {"limit": 7}),
            ("route zig square ell tee bar", NotUsable, {"word": "figures", "at": 1}),
            ("tick far ell go 3", InvalidText, {"line": 0, "field": 0}),
            ("tick far ell go 0 1:0 x", InvalidText, {"line": 0, "field": 1}),
            ("tick far ell go - 0", InvalidText, {"line": 0, "field": 0}),
            ("tick pair ell east 0 1:2", Clash, {"robot": 0}),
            ("push far 3 (9,9)", NotUsable, {"word": "robot", "at": -1}),
            ("push far 3 (0,0)", NotUsable, {"word": "robot", "at": -1}),
            ("push far 0 (0,0)", NotUsable, {"word": "place", "at": -1}),
            ("join ten (0,0)", NotUsable, {"word": "row", "at": -1}),
            ("join far (0,0)", NotUsable, {"word": "place", "at": -1}),
            ("drop pair 9", NotUsable, {"word": "row", "at": -1}),
            ("drop far 3", NotUsable, {"word": "robot", "at": -1}),
        ):
            self.refused(desk, line, error, **fields)
        self.refused(desk, "undo", NothingToUndo, steps=1)

    def test_a_refused_line_can_not_be_undone(self):
        desk = made()
        desk.do("draw a oo")
        for line in ("draw a x", "fits zig", "drop pair 0", "tick pair ell east 0 1:2"):
            with self.assertRaises(FloorError):
                desk.do(line)
        self.assertEqual(desk.do("undo"), "draw a oo")

    def test_not_a_line(self):
        desk = made()
        for wrong in BAD_TEXTS + ["show zig\n", "\n", "show\nzig", Motion(0, 0, 0)]:
            for call in (lambda: desk.do(wrong), lambda: desk.do(line=wrong)):
                with self.assertRaises(NotUsable) as caught:
                    call()
                self.assertEqual(vars(caught.exception), {"word": "line", "at": -1})


class Opened(DeskCase):
    def test_as_saved(self):
        rng = random.Random(97)
        for _ in range(20):
            desk = Desk()
            for k in range(rng.randint(0, 6)):
                if rng.random() < 0.5:
                    standing = rng.choice(SAMPLES)
                    desk.do(f"row {rng.choice('abcd')}{k} " + place_line(tuple(rng.sample(standing, len(standing)))))
                else:
                    desk.do(f"rule {rng.choice('abcd')}{k} " + show_rule(draw_rule(rng)).replace("\n", ";"))
            again = open_desk(desk.saved())
            self.assertEqual((again.saved(), again.names()), (desk.saved(), desk.names()))
            self.refused(again, "undo", NothingToUndo, steps=1)

    def test_edges(self):
        self.assertIsInstance(open_desk(text=""), Desk)
        self.assertEqual(open_desk("").names(), ())
        desk = open_desk("rule a\nrow a (0,0) (1,1)\nrule b else go east")
        self.assertEqual(desk.saved(), "row a (0,0) (1,1)\nrule b else go east")
        desk.do("join a (2,2)")
        self.assertEqual((desk.do("undo"), desk.saved()), ("join a (2,2)", "row a (0,0) (1,1)\nrule b else go east"))
        self.refused(desk, "undo", NothingToUndo, steps=1)
        self.assertEqual(open_desk("rule go " + show_rule(HOUSE)).do("rule go"), "go 0")

    def test_refused(self):
        good = "row a (0,0) (1,1)\n"
        for text, error, fields in (
            ("\n", InvalidLine, {"word": 0}),
            (" ", InvalidLine, {"word": 0}),
            (good, InvalidLine, {"word": 0}),
            ("\n" + good, InvalidLine, {"word": 0}),
            (good + "draw b oo", InvalidLine, {"word": 0}),
            (good + "show a", InvalidLine, {"word": 0}),
            (good + "undo", InvalidLine, {"word": 0}),
            (good + "undo x", InvalidLine, {"word": 0}),
            (good + "tick a a a 0", InvalidLine, {"word": 0}),
            (good + "row b", InvalidLine, {"word": 2}),
            (good + "rule B", InvalidLine, {"word": 1}),
            (good + "row b (0,0)\nshow", InvalidText, {"line": 0, "field": 1}),
            (good + "show\nrow b (0,0)", InvalidLine, {"word": 0}),
            (good + "rule b when", InvalidRule, {"line": 0, "word": 1, "reason": "end"}),
        ):
            with self.assertRaises(error, msg=text) as caught:
                open_desk(text)
            self.assertEqual((type(caught.exception), vars(caught.exception)), (error, fields), text)

    def test_wrong_inputs(self):
        for wrong in BAD_TEXTS:
            for call in (lambda: open_desk(wrong), lambda: open_desk(text=wrong)):
                with self.assertRaises(NotUsable) as caught:
                    call()
                self.assertEqual(vars(caught.exception), {"word": "text", "at": -1})

    def test_desks_are_their_own(self):
        one, two = Desk(), Desk()
        one.do("draw a oo")
        self.assertEqual((two.names(), one.names()), ((), ("a",)))


if __name__ == "__main__":
    unittest.main()
