"""[71]: lots and their lines."""

import random
import unittest

from compassless.errors import InvalidText, NotUsable
from compassless.floorclasses import Motion
from compassless.lots import all_lot, is_lot, lessened, lot_line, lots_line, read_lots
from tests.lotsamples import draw_lots
from tests.samples import BAD_INTEGERS, BAD_TEXTS, BAD_TURNS, HUGE

# Lots of no robots at all, whatever their number.
NO_LOTS = [None, True, 0, "", "0", [], [(0, 0)], (0, 0), ((0,),), ((0, 0, 0),), ([0, 0],), ((0, 4),), ((0, -1),)]
NO_LOTS += [((True, 0),), ((0, True),), ((0, None),), ((-1, 0),), ((0, 0), (0, 1)), ((1, 0), (0, 0)), (None,), ("00",)]
NO_LOTS += [((0, 0), (2, 1), (1, 0)), ((0, 0), (2, 0), (2, 0)), Motion(0, 0, 0), (Motion(0, 0, 0),), (((0, 0),),)]


def expected_line(lot):
    parts = [f"{robot}:{frame}" if frame else f"{robot}" for robot, frame in lot]
    return " ".join(parts) if parts else "-"


def expected_fault(many, text):
    """The first wrong field as [71] tells it, or None."""
    numbers = {str(k): k for k in range(many)}
    for j, lot in enumerate(text.split("; ") if text else []):
        last = -1
        for k, field in enumerate([] if lot == "-" else lot.split(" ")):
            word = field[:-2] if field[-2:] in (":1", ":2", ":3") else field
            if numbers.get(word, -1) <= last:
                return j, k
            last = numbers[word]
    return None


class Kinds(unittest.TestCase):
    def test_lots(self):
        rng = random.Random(71)
        for many in range(12):
            for lot in draw_lots(rng, many, 20) + ((),):
                self.assertIs(is_lot(many, lot), True)
                self.assertIs(is_lot(many + 3, lot), True)
                if lot:
                    self.assertIs(is_lot(lot[-1][0], lot), False)
                    self.assertIs(is_lot(many=lot[-1][0] + 1, thing=lot), True)

    def test_others(self):
        for thing in NO_LOTS:
            self.assertIs(is_lot(9, thing), False, thing)
        self.assertIs(is_lot(0, ()), True)
        self.assertIs(is_lot(0, ((0, 0),)), False)
        self.assertIs(is_lot(HUGE, ((HUGE - 1, 3),)), True)

    def test_all(self):
        for many in (0, 1, 2, 10, 2000):
            for frame in range(4):
                lot = all_lot(many, frame)
                self.assertEqual(lot, tuple((k, frame) for k in range(many)))
                self.assertIs(is_lot(many, lot), True)
        self.assertEqual(all_lot(frame=1, many=2), ((0, 1), (1, 1)))

    def test_wrong_many(self):
        for wrong in BAD_INTEGERS + [-1]:
            for call in (is_lot, all_lot, read_lots):
                self.refused("many", call, wrong, None)
        for wrong in BAD_TURNS:
            self.refused("frame", all_lot, 3, wrong)

    def refused(self, word, call, *given):
        with self.assertRaises(NotUsable) as caught:
            call(*given)
        self.assertEqual(vars(caught.exception), {"word": word, "at": -1}, given)


class Lines(unittest.TestCase):
    def test_lessened(self):
        lots = (((0, 0), (1, 1), (2, 2), (7, 3)), (), ((HUGE, 1),))
        self.assertEqual(lessened(1, lots), (((0, 3), (1, 0), (2, 1), (7, 2)), (), ((HUGE, 0),)))
        self.assertEqual(lessened(turn=0, lots=lots), lots)
        for turn in range(4):
            self.assertEqual(lessened((4 - turn) % 4, lessened(turn, lots)), lots)
        self.assertEqual(lessened(2, ()), ())

    def test_written_and_read(self):
        rng = random.Random(72)
        for many in (1, 2, 3, 10, 13):
            for times in (0, 1, 5):
                lots = draw_lots(rng, many, times)
                text = lots_line(lots)
                self.assertEqual(text, "; ".join(expected_line(lot) for lot in lots))
                self.assertEqual(read_lots(many, text), lots)
                self.assertEqual([lot_line(lot) for lot in lots], [expected_line(lot) for lot in lots])

    def test_words(self):
        self.assertEqual((lot_line(()), lots_line(()), lots_line(((),)), lots_line(((), ()))), ("-", "", "-", "-; -"))
        self.assertEqual(lot_line(((0, 3), (11, 0), (HUGE, 1))), f"0:3 11 {HUGE}:1")
        self.assertEqual((read_lots(5, ""), read_lots(0, "-"), read_lots(2, "-; 1; -")), ((), ((),), ((), ((1, 0),), ())))
        self.assertEqual(read_lots(text="0:1 10", many=11), (((0, 1), (10, 0)),))

    def test_wrong_fields(self):
        for text, at in (
            (" ", (0, 0)),
            ("a", (0, 0)),
            ("0:0", (0, 0)),
            ("0:4", (0, 0)),
            ("0:", (0, 0)),
            (":1", (0, 0)),
            ("0:11", (0, 0)),
            ("0:1:1", (0, 0)),
            ("00", (0, 0)),
            ("01", (0, 0)),
            ("-0", (0, 0)),
            ("+1", (0, 0)),
            ("-1", (0, 0)),
            ("3", (0, 0)),
            ("2:3 3", (0, 1)),
            ("0 0", (0, 1)),
            ("0:1 0:2", (0, 1)),
            ("1 0", (0, 1)),
            ("0 ", (0, 1)),
            ("0  1", (0, 1)),
            ("- 0", (0, 0)),
            ("0 -", (0, 1)),
            ("0; ", (1, 0)),
            ("; 0", (0, 0)),
            ("0;1", (0, 0)),
            ("0;", (0, 0)),
            ("0 1; -; 2 1", (2, 1)),
            ("0;  1", (1, 0)),
            ("-; --", (1, 0)),
            ("9; x", (0, 0)),
        ):
            with self.assertRaises(InvalidText, msg=text) as caught:
                read_lots(3, text)
            self.assertEqual(tuple(vars(caught.exception).items()), (("line", at[0]), ("field", at[1])), text)
            self.assertEqual(expected_fault(3, text), at)

    def test_drawn_texts(self):
        rng = random.Random(73)
        wrong = 0
        for _ in range(3000):
            text = "".join(rng.choice("0123 ;:-") for _ in range(rng.randint(0, 6)))
            text = text.replace(";", "; ") if rng.random() < 0.7 else text
            fault = expected_fault(4, text)
            if fault is None:
                self.assertEqual(lots_line(read_lots(4, text)), text)
            else:
                wrong += 1
                with self.assertRaises(InvalidText, msg=text) as caught:
                    read_lots(4, text)
                self.assertEqual(tuple(vars(caught.exception).values()), fault, text)
        self.assertGreater(3000 - wrong, 300)

    def test_wrong_inputs(self):
        for wrong in NO_LOTS:
            self.refused("lot", lot_line, wrong)
            for call in (lots_line, lambda lots: lessened(1, lots)):
                self.refused("lots", call, (wrong,))
                self.refused("lots", call, ((), wrong))
        for wrong in [None, True, 3, "", "0", [], [()], ((0, 0),)]:
            self.refused("lots", lots_line, wrong)
            self.refused("turn", lessened, 4, wrong)
        for wrong in BAD_TEXTS:
            self.refused("text", read_lots, 3, wrong)

    refused = Kinds.refused


if __name__ == "__main__":
    unittest.main()
