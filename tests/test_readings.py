"""[65], [66] and [70]: the words of a rule's text, reading and showing rules."""

import random
import unittest

from compassless.errors import InvalidRule, NotUsable
from compassless.floorclasses import Motion
from compassless.readings import read_rule
from compassless.rulechecker import lets_rule
from compassless.ruletrees import HOUSE, is_rule
from compassless.rulewords import words_of
from compassless.showing import show_num, show_rule, show_test
from tests.rulesamples import CALLS, LANGUAGE, OTHERS, SHORT_WAYS, SIGNS, WORDS
from tests.rulesamples import draw_num, draw_rule, draw_test, first_fault
from tests.test_ruletrees import ANYTHING, ONE, SAME, STAY, nested, rule_with

NOT_TEXTS = [None, True, 0, [], ("else go east",), ["else"], HOUSE, Motion(0, 0, 0)]


class Refused(unittest.TestCase):
    def refused(self, line, word, reason, text, call=read_rule):
        with self.assertRaises(InvalidRule) as caught:
            call(text)
        self.assertEqual(vars(caught.exception), {"line": line, "word": word, "reason": reason}, text)


class WordsOf(Refused):
    def test_lines(self):
        self.assertEqual(words_of(""), ((),))
        self.assertEqual(words_of(";"), ((), ()))
        self.assertEqual(words_of("\n;\n"), ((), (), (), ()))
        self.assertEqual(words_of("   "), ((),))
        self.assertEqual(words_of(text="a;b\nc; ;d"), (("a",), ("b",), ("c",), (), ("d",)))

    def test_words(self):
        self.assertEqual(words_of("ab12 12ab a1b2 007 0"), (("ab12", "12", "ab", "a1b2", "007", "0"),))
        self.assertEqual(words_of("<= < = <== =< <<="), (("<=", "<", "=", "<=", "=", "=", "<", "<", "<="),))
        self.assertEqual(words_of("()[],+-*"), (tuple("()[],+-*"),))
        self.assertEqual(words_of("  a=1  "), (("a", "=", "1"),))
        self.assertEqual(words_of("go(east)-5*a"), (("go", "(", "east", ")", "-", "5", "*", "a"),))
        self.assertEqual(words_of("<"), (("<",),))
        self.assertEqual(words_of("when<;<="), (("when", "<"), ("<=",)))

    def test_any_words_any_blanks(self):
        rng = random.Random(65)
        some = list(SIGNS) + list(LANGUAGE) + ["a", "b2c", "0", "12", "00", "zzzzzzzzzzzzzzz9"]
        for _ in range(300):
            lines = [[rng.choice(some) for _ in range(rng.randint(0, 8))] for _ in range(rng.randint(1, 5))]
            text = ""
            for k, words in enumerate(lines):
                text += rng.choice([";", "\n"]) if k else ""
                text += " " * rng.randint(0, 2) + "".join(word + " " * rng.randint(1, 3) for word in words)
            self.assertEqual(words_of(text), tuple(map(tuple, lines)))

    def test_signs(self):
        for sign in "!\"#$&'./:>?@ABCXYZ\\^_`{|}~":
            for call in (words_of, read_rule):
                self.refused(0, 0, "sign", sign, call)
                self.refused(1, 3, "sign", "go;let a =" + sign, call)
                self.refused(2, 1, "sign", "\n;a" + sign + "b" + sign + "\n" + sign, call)
        self.refused(0, 1, "sign", "aB", words_of)
        self.refused(0, 2, "sign", "12 a.b", words_of)
        self.refused(0, 2, "sign", "a <=> b", words_of)
        self.refused(1, 0, "sign", "a\n  \t", words_of)

    def test_wrong_text(self):
        for wrong in NOT_TEXTS:
            for call in (words_of, read_rule):
                with self.assertRaises(NotUsable) as caught:
                    call(wrong)
                self.assertEqual(vars(caught.exception), {"word": "text", "at": -1})


class Reading(Refused):
    def test_lines(self):
        east = rule_with(last=("east",))
        for text in ("else go east", ";;else go east;;", " else  go  east ", "else go east;\n; ;"):
            self.assertEqual(read_rule(text), east)
        for text in ("", ";", "\n\n", "  ;  ", "else go stay", "\nelse go stay;"):
            self.assertEqual(read_rule(text=text), rule_with())
        due = rule_with((), ((SAME, ("north",)), (SAME, ("house",))))
        self.assertEqual(read_rule("when 1 = 1 go north;when 1 = 1 go house"), due)
        self.assertEqual(read_rule("let a = 1\n\nlet b = a"), rule_with((("a", ONE), ("b", ("name", "a")))))
        self.assertEqual(read_rule("else go house"), HOUSE)

    def num(self, text):
        return read_rule("let a1 = 1; let z = " + text)[1][1][1]

    def test_nums(self):
        a, b, c = ("num", 1), ("num", 2), ("num", 3)
        due = {
            "1 - 2 - 3": ("minus", ("minus", a, b), c),
            "1 - (2 - 3)": ("minus", a, ("minus", b, c)),
            "1 + 2 * 3": ("plus", a, ("times", b, c)),
            "1 * 2 + 3": ("plus", ("times", a, b), c),
            "1 * 2 * 3": ("times", ("times", a, b), c),
            "1 - 2 + 3": ("plus", ("minus", a, b), c),
            "(1 + 2) * 3": ("times", ("plus", a, b), c),
            "-1 * 2": ("times", ("neg", a), b),
            "1 * -2": ("times", a, ("neg", b)),
            "-1 - -2": ("minus", ("neg", a), ("neg", b)),
            "--1": ("neg", ("neg", a)),
            "-(1 + 2)": ("neg", ("plus", a, b)),
            "(((1)))": a,
            "a1": ("name", "a1"),
            "-a1 + many": ("plus", ("neg", ("name", "a1")), ("word", "many")),
            "seen(1, 2)": ("call", "seen", (a, b)),
            "near(-1)": ("call", "near", (("neg", a),)),
            "box(1, 2, 3, 1 + 2)": ("call", "box", (a, b, c, ("plus", a, b))),
            "max(1, min(2, abs(3)))": ("call", "max", (a, ("call", "min", (b, ("call", "abs", (c,)))))),
            "0": ("num", 0),
            "999999": ("num", 999999),
        }
        for text, num in due.items():
            self.assertEqual(self.num(text), num)
            self.assertEqual(self.num(text.replace(" ", "")), num)
        for word in WORDS:
            self.assertEqual(self.num(word), ("word", word))

    def test_tests(self):
        x, y, z = SAME, ("less", ONE, ONE), ("most", ONE, ONE)
        due = {
            "1 = 1 or 1 < 1 or 1 <= 1": ("or", ("or", x, y), z),
            "1 = 1 or 1 < 1 and 1 <= 1": ("or", x, ("and", y, z)),
            "1 = 1 and 1 < 1 or 1 <= 1": ("or", ("and", x, y), z),
            "1 = 1 and 1 < 1 and 1 <= 1": ("and", ("and", x, y), z),
            "1 = 1 and [1 < 1 or 1 <= 1]": ("and", x, ("or", y, z)),
            "[1 = 1 or 1 < 1] and 1 <= 1": ("and", ("or", x, y), z),
            "1 = 1 or [1 < 1 or 1 <= 1]": ("or", x, ("or", y, z)),
            "not 1 = 1 and 1 < 1": ("and", ("not", x), y),
            "not [1 = 1 and 1 < 1]": ("not", ("and", x, y)),
            "not not 1 = 1": ("not", ("not", x)),
            "[[1 = 1]]": x,
            "1 = 1 and not [1 < 1]": ("and", x, ("not", y)),
        }
        for text, test in due.items():
            self.assertEqual(read_rule("when " + text + " go east"), rule_with((), ((test, ("east",)),)))

    def test_ways(self):
        for word in SHORT_WAYS:
            self.assertEqual(read_rule("when 1=1 go " + word)[2], ((SAME, (word,)),))
            self.assertEqual(read_rule("else go " + word)[3], (word,))
        self.assertEqual(read_rule("else go along(1, 1)")[3], ("along", ONE, ONE))

    def test_the_greatest_depths(self):
        self.assertEqual(self.num("(" * 50 + "1" + ")" * 50), ONE)
        self.assertEqual(self.num("-" * 39 + "1"), nested("neg", 39))
        self.assertEqual(self.num("abs(" * 39 + "1" + ")" * 39)[0], "call")
        text = "when " + "[" * 50 + "1 = 1" + "]" * 50 + " go east"
        self.assertEqual(read_rule(text)[2][0][0], SAME)
        self.assertEqual(read_rule("when " + "not " * 38 + "1 = 1 go east")[2][0][0], nested("not", 38, SAME))
        text = "when " + "not [" * 25 + "1 = 1" + "]" * 25 + " go east"
        self.assertEqual(read_rule(text)[2][0][0], nested("not", 25, SAME))

    def test_much(self):
        self.refused(-1, -1, "much", "let a = " + "-" * 40 + "1")
        self.refused(-1, -1, "much", "let a = " + "-" * 50 + "1")
        self.refused(-1, -1, "much", "when " + "not " * 50 + "1 = 1 go east")
        self.refused(-1, -1, "much", "let a = 1" + " + 1" * 498)
        self.refused(-1, -1, "much", "let a = 1" + " * 1" * 5)
        self.assertTrue(is_rule(read_rule("let a = 1" + " * 1" * 4)))
        lets = "".join(f"let n{k} = 1;" for k in range(21))
        self.refused(-1, -1, "much", lets)
        self.assertEqual(len(read_rule(lets[: lets.index("let n20")])[1]), 20)
        self.refused(-1, -1, "much", "when 1=1 go east;" * 41)
        self.assertEqual(lets_rule(read_rule("when 1=1 go east;" * 40)), 40)
        self.refused(-1, -1, "much", "when 1=1 go east;" * 41 + "else go along(" + "-" * 45 + "1, 2)")
        # What can't stand somewhere comes ahead of what is too much.
        self.refused(21, 0, "word", lets + "go")

    def test_four_thousand_signs(self):
        text = "when 1 = 1 go east" + " " * 3900 + ";else go west"
        self.assertEqual(read_rule(text), rule_with((), ((SAME, ("east",)),), ("west",)))


class FirstWrongWord(Refused):
    def test_numbers(self):
        for word in ("00", "01", "007", "1000000", "1234567", "0000000", "9" * 40):
            for ahead in ("let a =", "when -", "when", "when 1 =", "else go along(1,", "when seen(1,", "when [2 <= ("):
                self.refused(0, len(words_of(ahead)[0]), "number", ahead + " " + word)
        # Where no number can stand, it is a wrong word like any other.
        for ahead in ("", "let", "let a", "let a = 1", "else", "else go", "else go along", "when 1 = 1", "when near"):
            self.refused(0, len(words_of(ahead)[0]), "word", ahead + " 007")

    def test_names(self):
        for word in ("b", "abcdefghijklm", "z" * 30, "x9", "even"):
            for ahead in ("let a =", "when", "when 1 = 1 +", "else go along(", "when near(", "when not [", "when -"):
                self.refused(0, len(words_of(ahead)[0]), "name", ahead + " " + word + " = 1")
        # Behind its own line a name may stand, in it not yet.
        self.refused(0, 3, "name", "let a = a")
        self.refused(1, 3, "name", "let a = 1;let b = b + a")
        self.refused(1, 1, "name", "let a = 1; let a = 2")
        self.refused(3, 1, "name", "let a = 1; let b = 1; ;let a = 2")
        for ahead in ("", "let a", "let a = 1", "else", "else go", "else go along", "let a = near", "when 1 = 1 go"):
            self.refused(0, len(words_of(ahead)[0]), "word", ahead + " b")
        self.refused(0, 1, "word", "let abcdefghijklm = 1")
        self.assertEqual(read_rule("let abcdefghijkl = 1")[1], (("abcdefghijkl", ONE),))

    def test_words_of_the_language(self):
        for word in LANGUAGE:
            self.refused(0, 1, "word", f"let {word} = 1")
            if word not in WORDS + tuple(CALLS):
                self.refused(0, 3, "word", f"let a = {word}")
            if word not in ("let", "when", "else"):
                self.refused(0, 0, "word", word + " a = 1")
            if word not in SHORT_WAYS + ("along",):
                self.refused(0, 2, "word", "else go " + word)
            self.refused(0, 4, "word", "let a = 1 " + word)

    def test_ends(self):
        for text in (
            *("let", "let a", "let a =", "let a = 1 +", "let a = -", "let a = (1", "let a = near", "let a = near("),
            *("let a = seen(1", "let a = seen(1,", "when", "when not", "when [", "when [1 = 1", "when 1", "when 1 ="),
            *("when 1 = 1", "when 1 = 1 and", "when 1 = 1 go", "else", "else go", "else go along", "else go along("),
            *("else go along(1", "else go along(1,", "else go along(1, 1"),
        ):
            self.refused(0, len(words_of(text)[0]), "end", text)
            self.refused(2, len(words_of(text)[0]), "end", "\n;" + text + ";else go east")

    def test_brackets(self):
        self.refused(0, 5, "word", "let a = (1]")
        self.refused(0, 5, "word", "let a = (1, 2)")
        self.refused(0, 4, "word", "let a = ()")
        self.refused(0, 3, "word", "let a = [1]")
        self.refused(0, 4, "word", "let a = 1)")
        self.refused(0, 3, "word", "when (1 = 1) go east")
        self.refused(0, 3, "word", "when [1] = 1 go east")
        self.refused(0, 5, "word", "when [1 = 1) go east")
        self.refused(0, 8, "word", "let a = seen(1, 2, 3)")
        self.refused(0, 6, "word", "let a = seen(1)")
        self.refused(0, 5, "word", "let a = near()")
        self.refused(0, 6, "word", "let a = near(1, 2)")
        self.refused(0, 4, "word", "when 1 = 1 = 1 go east")
        self.refused(0, 4, "word", "when 1 < 1 <= 1 go east")
        self.refused(0, 4, "word", "when 1 = 1 not 1 = 1 go east")
        self.refused(0, 3, "word", "let a = + 1")
        self.refused(0, 3, "word", "when 1 = * 1")

    def test_the_sequence_of_lines(self):
        let, when, last = "let a = 1", "when 1 = 1 go east", "else go east"
        for one, two in ((when, let), (last, let), (last, when), (last, last)):
            self.refused(1, 0, "word", one + ";" + two)
            self.refused(3, 0, "word", let.replace("a", "b") + ";" + one + ";;" + two + ";" + "go")
        self.assertTrue(is_rule(read_rule(";".join([let, when, when, last]))))
        self.refused(0, 3, "word", last + " " + last)
        self.refused(0, 6, "word", when + " else go west")

    def test_the_first_line_counts(self):
        self.refused(0, 3, "end", "let a =\nlet b = ]")
        self.refused(1, 2, "sign", "let a =\nlet b $ ]")

    def test_beside_the_whole_grammar(self):
        # Texts with words left out, put in or exchanged, beside a reader that keeps all derivations.
        rng = random.Random(70)
        reasons = {}
        for _ in range(2500):
            lines = spoiled(rng, words_of(show_rule(draw_rule(rng))))
            text = "\n".join(" ".join(words) for words in lines)
            due = first_fault(lines)
            if due is None:
                self.assertTrue(is_rule(read_rule(text)))
            else:
                self.refused(*due, text)
            reasons[due and due[2]] = reasons.get(due and due[2], 0) + 1
        self.assertEqual(set(reasons), {None, "word", "end", "name", "number"})
        self.assertGreater(min(reasons.values()), 9, reasons)

    def test_any_words(self):
        rng = random.Random(71)
        for _ in range(400):
            words = tuple(rng.choice(SOME) for _ in range(rng.randint(1, 6)))
            start = rng.choice([("when",), ("let", "a", "="), ("else", "go"), ("when", "1", "="), ()])
            lines = (("let", "b", "=", "1"), start + words)
            due = first_fault(lines)
            if due is not None:
                self.refused(*due, ";".join(" ".join(line) for line in lines))


NAMES_AND_NUMBERS = ("1", "20", "b", "b", "c", "007", "007", "1000000", "zzzzzzzzzzzzz")
SOME = SIGNS * 3 + OTHERS + WORDS[:3] + tuple(CALLS) + SHORT_WAYS[:2] + NAMES_AND_NUMBERS


def spoiled(rng, lines):
    """The lines of words, with none to two words somewhere left out, put in or exchanged."""
    lines = [list(words) for words in lines]
    for _ in range(rng.randint(0, 2)):
        words = rng.choice(lines)
        k = rng.randint(0, len(words))
        words[k : k + rng.randint(0, 1)] = [rng.choice(SOME)] * rng.randint(0, 1)
    if rng.random() < 0.2:
        words = rng.choice(lines)
        del words[rng.randint(0, len(words)) :]
    return tuple(map(tuple, lines))


def respaced(text):
    """The text with blanks put anew, by [66], between its words."""
    shown = []
    for words in words_of(text):
        line = ""
        for k, word in enumerate(words):
            behind = words[k - 1] if k else ""
            binary = word == "-" and (behind in (")",) + WORDS or behind.isalnum() and behind not in OTHERS)
            if word in ("=", "<", "<=", "+", "*", "or", "and", "go") or binary:
                line += f" {word} "
            elif word in ("let", "when", "else", "not", ","):
                line += word + " "
            else:
                line += word
        shown.append(" ".join(line.split()))
    return "\n".join(shown)


def without_pairs(text):
    """The text without one pair of brackets, for each pair that holds no parts of a function or way."""
    for k, sign in enumerate(text):
        if sign in "([" and not text[:k].endswith(tuple(CALLS) + ("along",)):
            depth, end = 0, k
            while True:
                depth += (text[end] in "([") - (text[end] in ")]")
                if depth == 0:
                    break
                end += 1
            yield text[:k] + text[k + 1 : end] + text[end + 1 :]


class Showing(Refused):
    def test_back_again(self):
        rng = random.Random(66)
        for _ in range(400):
            rule = draw_rule(rng)
            text = show_rule(rule)
            self.assertEqual(show_rule(rule=rule), text)
            self.assertEqual(read_rule(text), rule)
            self.assertEqual(read_rule(text.replace("\n", ";").replace(" - ", "-")), rule)
            self.assertEqual(text, respaced(text))

    def test_no_bracket_is_needless(self):
        rng = random.Random(67)
        pairs = 0
        for _ in range(300):
            rule = draw_rule(rng)
            for other in without_pairs(show_rule(rule)):
                pairs += 1
                try:
                    self.assertNotEqual(read_rule(other), rule, other)
                except InvalidRule:
                    pass
        self.assertGreater(pairs, 300)

    def test_nums_and_tests(self):
        rng = random.Random(68)
        names = ["a", "b2"]
        for _ in range(300):
            num, test = draw_num(rng, names, 5, True), draw_test(rng, names, 4, True)
            self.assertEqual(show_num(num=num), show_num(num))
            self.assertEqual(show_test(test=test), show_test(test))
            rule = rule_with((("a", ONE), ("b2", ONE)), ((test, ("along", num, num)),))
            if is_rule(rule):
                shown = f"when {show_test(test)} go along({show_num(num)}, {show_num(num)})"
                self.assertEqual(show_rule(rule), "let a = 1\nlet b2 = 1\n" + shown)

    def test_brackets_word_by_word(self):
        a, b, c = ("num", 1), ("num", 2), ("name", "unlet")
        for head, sign in (("plus", "+"), ("minus", "-")):
            total = (head, a, b)
            self.assertEqual(show_num(total), f"1 {sign} 2")
            for other, mark in (("plus", "+"), ("minus", "-")):
                self.assertEqual(show_num((other, total, c)), f"1 {sign} 2 {mark} unlet")
                self.assertEqual(show_num((other, c, total)), f"unlet {mark} (1 {sign} 2)")
                self.assertEqual(show_num((other, c, ("times", a, b))), f"unlet {mark} 1 * 2")
            self.assertEqual(show_num(("times", total, total)), f"(1 {sign} 2) * (1 {sign} 2)")
            self.assertEqual(show_num(("neg", total)), f"-(1 {sign} 2)")
            self.assertEqual(show_num(("call", "seen", (total, total))), f"seen(1 {sign} 2, 1 {sign} 2)")
        product = ("times", a, b)
        self.assertEqual(show_num(("times", product, c)), "1 * 2 * unlet")
        self.assertEqual(show_num(("times", c, product)), "unlet * (1 * 2)")
        self.assertEqual(show_num(("neg", product)), "-(1 * 2)")
        self.assertEqual(show_num(("neg", ("neg", c))), "--unlet")
        self.assertEqual(show_num(("times", ("neg", a), ("neg", b))), "-1 * -2")
        self.assertEqual(show_num(("minus", ("neg", a), ("neg", b))), "-1 - -2")
        self.assertEqual(show_num(("neg", ("call", "box", (a, b, c, ("neg", a))))), "-box(1, 2, unlet, -1)")

    def test_square_brackets_word_by_word(self):
        x, y = ("eq", ("plus", ONE, ONE), ONE), ("most", ONE, ("neg", ONE))
        either, both = ("or", x, y), ("and", x, y)
        s, t = "1 + 1 = 1", "1 <= -1"
        self.assertEqual(show_test(("less", ONE, ("word", "far"))), "1 < far")
        self.assertEqual(show_test(either), f"{s} or {t}")
        self.assertEqual(show_test(both), f"{s} and {t}")
        self.assertEqual(show_test(("or", either, both)), f"{s} or {t} or {s} and {t}")
        self.assertEqual(show_test(("or", both, either)), f"{s} and {t} or [{s} or {t}]")
        self.assertEqual(show_test(("and", either, either)), f"[{s} or {t}] and [{s} or {t}]")
        self.assertEqual(show_test(("and", both, both)), f"{s} and {t} and [{s} and {t}]")
        self.assertEqual(show_test(("not", either)), f"not [{s} or {t}]")
        self.assertEqual(show_test(("not", both)), f"not [{s} and {t}]")
        self.assertEqual(show_test(("not", ("not", x))), f"not not {s}")
        self.assertEqual(show_test(("and", ("not", x), ("not", y))), f"not {s} and not {t}")

    def test_lines(self):
        self.assertEqual(show_rule(rule_with()), "")
        self.assertEqual(show_rule(HOUSE), "else go house")
        self.assertEqual(show_rule(rule_with((), ((SAME, STAY),))), "when 1 = 1 go stay")
        rule = rule_with((("a", ONE),), ((SAME, ("along", ONE, ("name", "a"))),), ("along", ONE, ONE))
        self.assertEqual(show_rule(rule), "let a = 1\nwhen 1 = 1 go along(1, a)\nelse go along(1, 1)")

    def test_the_greatest_depths(self):
        rule = rule_with((("a", nested("neg", 39)),), ((nested("not", 38, SAME), STAY),))
        self.assertEqual(read_rule(show_rule(rule)), rule)
        deep = ONE
        for _ in range(39):
            deep = ("minus", ONE, deep)
        self.assertEqual(show_num(deep), "1 - (" * 38 + "1 - 1" + ")" * 38)
        self.assertEqual(read_rule("let a = " + show_num(deep))[1][0][1], deep)

    def test_wrong_inputs(self):
        for wrong in ANYTHING:
            if wrong not in (("name", "unlet"),):
                self.unusable("num", show_num, wrong)
            self.unusable("test", show_test, wrong)
        for wrong in ANYTHING[:-1] + [rule_with((("a", ("name", "a")),)), rule_with([]), rule_with((), [])]:
            self.unusable("rule", show_rule, wrong)
        self.unusable("rule", show_rule, rule_with(tuple(("n" + str(k), ONE) for k in range(21))))
        self.unusable("rule", show_rule, rule_with((), ((("eq", ONE, ("name", "a")), STAY),)))
        self.assertEqual(show_num(("name", "unlet")), "unlet")

    def unusable(self, word, call, wrong):
        for given, more in (((wrong,), {}), ((), {word: wrong})):
            with self.assertRaises(NotUsable, msg=wrong) as caught:
                call(*given, **more)
            self.assertEqual(vars(caught.exception), {"word": word, "at": -1})


if __name__ == "__main__":
    unittest.main()
