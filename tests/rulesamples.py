"""Rules for the tests: drawn trees, a second way to tell trees, and a second way to read words.

The trees are drawn with a seed that the test gives, so each run of the tests has the same ones.
"""

WORDS = ("many", "fold", "twins", "rank", "far", "wide", "high", "sumx", "sumy", "done")
CALLS = {"seen": 2, "near": 1, "box": 4, "min": 2, "max": 2, "abs": 1}
SHORT_WAYS = ("stay", "east", "north", "west", "south", "house")
OTHERS = ("along", "let", "when", "go", "else", "or", "and", "not")
LANGUAGE = WORDS + tuple(CALLS) + SHORT_WAYS + OTHERS
SIGNS = ("(", ")", "[", "]", ",", "=", "<", "<=", "+", "-", "*")


def draw_num(rng, names, depth, times=False):
    if depth == 1 or rng.random() < 0.25:
        leaf = rng.choice(["num", "word", "name"] if names else ["num", "word"])
        if leaf == "num":
            return ("num", rng.choice([0, 1, 2, 10, 37, 999999]))
        return (leaf, rng.choice(WORDS if leaf == "word" else names))
    heads = ["plus", "minus", "plus", "minus", "neg", "call"] + ["times", "times"] * times
    head = rng.choice(heads)
    if head == "call":
        function = rng.choice(list(CALLS))
        nums = tuple(draw_num(rng, names, depth - 1, times) for _ in range(CALLS[function]))
        return ("call", function, nums)
    many = 1 if head == "neg" else 2
    return (head,) + tuple(draw_num(rng, names, depth - 1, times) for _ in range(many))


def draw_test(rng, names, depth, times=False):
    if depth == 2 or rng.random() < 0.25:
        head = rng.choice(["eq", "less", "most"])
        return (head, draw_num(rng, names, depth - 1, times), draw_num(rng, names, depth - 1, times))
    head = rng.choice(["or", "and", "not"])
    many = 1 if head == "not" else 2
    return (head,) + tuple(draw_test(rng, names, depth - 1, times) for _ in range(many))


def draw_way(rng, names, depth):
    if rng.random() < 0.6:
        return (rng.choice(SHORT_WAYS),)
    return ("along", draw_num(rng, names, depth), draw_num(rng, names, depth))


def draw_rule(rng):
    """A rule within the bounds, with none to four lets and none to four clauses."""
    names = rng.sample(["a", "b2", "so", "eastern", "abcdefghijkl", "x0"], rng.randint(0, 4))
    lets = tuple((name, draw_num(rng, names[:k], 3)) for k, name in enumerate(names))
    clauses = []
    for _ in range(rng.randint(0, 4)):
        clauses.append((draw_test(rng, names, 4), draw_way(rng, names, 2)))
    return ("rule", lets, tuple(clauses), draw_way(rng, names, 3))


def is_int(thing):
    return type(thing) is int


def told_name(thing):
    letters = "abcdefghijklmnopqrstuvwxyz"
    if type(thing) is not str or not 1 <= len(thing) <= 12 or thing in LANGUAGE:
        return False
    return thing[0] in letters and all(sign in letters + "0123456789" for sign in thing)


def told_num(names, thing):
    """Whether thing is a num, told by calling itself."""
    if type(thing) is not tuple or not thing or type(thing[0]) is not str:
        return False
    head, *rest = thing
    if head in ("plus", "minus", "times", "neg"):
        return len(rest) == (1 if head == "neg" else 2) and all(told_num(names, part) for part in rest)
    if head == "call":
        if len(rest) != 2 or type(rest[0]) is not str or type(rest[1]) is not tuple:
            return False
        return CALLS.get(rest[0]) == len(rest[1]) and all(told_num(names, part) for part in rest[1])
    if len(rest) != 1:
        return False
    if head == "num":
        return is_int(rest[0]) and 0 <= rest[0] < 10**6
    if head == "word":
        return type(rest[0]) is str and rest[0] in WORDS
    return head == "name" and told_name(rest[0]) and rest[0] in names


def told_test(names, thing):
    if type(thing) is not tuple or not thing or type(thing[0]) is not str:
        return False
    head, *rest = thing
    if head in ("or", "and", "not"):
        return len(rest) == (1 if head == "not" else 2) and all(told_test(names, part) for part in rest)
    return head in ("eq", "less", "most") and len(rest) == 2 and all(told_num(names, part) for part in rest)


def told_way(names, thing):
    if type(thing) is not tuple or not thing or type(thing[0]) is not str:
        return False
    if thing[0] == "along":
        return len(thing) == 3 and all(told_num(names, part) for part in thing[1:])
    return len(thing) == 1 and thing[0] in SHORT_WAYS


# The grammar of [65]; what is no key is a word, NUMBER and NAME stand for what is so written.
GRAMMAR = {
    "LET": [("let", "FRESH", "=", "num")],
    "WHEN": [("when", "test", "go", "way")],
    "ELSE": [("else", "go", "way")],
    "way": [(word,) for word in SHORT_WAYS] + [("along", "(", "num", ",", "num", ")")],
    "test": [("both",), ("test", "or", "both")],
    "both": [("one",), ("both", "and", "one")],
    "one": [("not", "one"), ("[", "test", "]"), ("num", "=", "num"), ("num", "<", "num"), ("num", "<=", "num")],
    "num": [("term",), ("num", "+", "term"), ("num", "-", "term")],
    "term": [("atom",), ("term", "*", "atom")],
    "atom": [("NUMBER",), ("NAME",), ("-", "atom"), ("(", "num", ")")]
    + [(word,) for word in WORDS]
    + [(name, "(", *("num", ",") * (many - 1), "num", ")") for name, many in CALLS.items()],
}


class Earley:
    """All that can stand behind the words so far, by the whole grammar at once."""

    def __init__(self, starts):
        self.rows = [{(head, body, 0, 0) for head in starts for body in GRAMMAR[head]}]
        self.starts = starts
        self.close()

    def close(self):
        row, at = list(self.rows[-1]), len(self.rows) - 1
        seen = self.rows[-1]
        while row:
            head, body, dot, origin = row.pop()
            if dot == len(body):
                new = [(h, b, d + 1, o) for h, b, d, o in self.rows[origin] if d < len(b) and b[d] == head]
            else:
                new = [(body[dot], wanted, 0, at) for wanted in GRAMMAR.get(body[dot], [])]
            for item in new:
                if item not in seen:
                    seen.add(item)
                    row.append(item)

    def wanted(self):
        return {body[dot] for _, body, dot, _ in self.rows[-1] if dot < len(body) and body[dot] not in GRAMMAR}

    def complete(self):
        return any(head in self.starts and dot == len(body) for head, body, dot, _ in self.rows[-1])

    def step(self, sign):
        self.rows.append({(h, b, d + 1, o) for h, b, d, o in self.rows[-1] if d < len(b) and b[d] == sign})
        self.close()


def sign_of(word, wanted, names):
    """The wanted sign for which this word stands, or the reason why it can't stand there."""
    if word in wanted and word not in ("NUMBER", "NAME", "FRESH"):
        return word, None
    if word[0].isdigit():
        if "NUMBER" in wanted:
            fine = len(word) <= 6 and str(int(word)) == word
            return ("NUMBER", None) if fine else (None, "number")
    elif word[0].isalpha() and word not in LANGUAGE:
        if "NAME" in wanted:
            return ("NAME", None) if word in names else (None, "name")
        if "FRESH" in wanted and word in names:
            return None, "name"
        if "FRESH" in wanted and len(word) <= 12:
            return "FRESH", None
    return None, "word"


def first_fault(lines):
    """The line, the number and the reason of the first word that can't stand where it does, or None."""
    names, starts = [], ("LET", "WHEN", "ELSE")
    for number, words in enumerate(lines):
        if not words:
            continue
        reader = Earley(starts)
        for k, word in enumerate(words):
            sign, reason = sign_of(word, reader.wanted(), names)
            if reason:
                return number, k, reason
            reader.step(sign)
        if not reader.complete():
            return number, len(words), "end"
        if words[0] == "let":
            names.append(words[1])
        else:
            starts = () if words[0] == "else" else ("WHEN", "ELSE")
    return None
