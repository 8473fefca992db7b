"""A second way to tell what a rule gives for a view: its tree turned into Python's own words."""

from compassless.house import house_step
from compassless.viewwords import word_of

SIGNS = {"plus": "+", "minus": "-", "times": "*", "or": "or", "and": "and", "eq": "==", "less": "<", "most": "<="}
CALLED = {
    "seen": "int(({0}, {1}) in view)",
    "near": "sum(abs(x) + abs(y) <= {0} for x, y in others)",
    "box": "sum({0} <= x <= {1} and {2} <= y <= {3} for x, y in others)",
    "min": "min({0}, {1})",
    "max": "max({0}, {1})",
    "abs": "abs({0})",
}
STEPS = {"stay": (0, 0), "east": (1, 0), "north": (0, 1), "west": (-1, 0), "south": (0, -1)}


def code_of(tree):
    head, *parts = tree
    if head == "num":
        return str(parts[0])
    if head == "name":
        return "let_" + parts[0]
    if head == "word":
        return f"tell({parts[0]!r})"
    if head == "call":
        return CALLED[parts[0]].format(*[f"({code_of(part)})" for part in parts[1]])
    if head in ("neg", "not"):
        return f"({'-' if head == 'neg' else 'not'} {code_of(parts[0])})"
    return f"({code_of(parts[0])} {SIGNS[head]} {code_of(parts[1])})"


class Meaning:
    def __init__(self, names, view, figure):
        self.view, self.figure = view, figure
        self.known = {"view": view, "others": [p for p in view if p != (0, 0)]}
        self.known["tell"] = lambda word: word_of(word, view, figure)
        self.known.update({"let_" + name: value for name, value in names})

    def value(self, tree):
        return eval(code_of(tree), dict(self.known))

    def step(self, way):
        if way[0] == "house":
            same = self.figure is not None and len(self.figure) == len(self.view)
            return house_step(self.view, self.figure) if same else (0, 0)
        if way[0] != "along":
            return STEPS[way[0]]
        e, f = self.value(way[1]), self.value(way[2])
        if e != 0 and abs(e) >= abs(f):
            return (1, 0) if e > 0 else (-1, 0)
        return (0, 0) if f == 0 else (0, 1) if f > 0 else (0, -1)


def expected(rule, view, figure):
    """The pairs of names, the way and the step."""
    _, lets, clauses, last = rule
    meaning, names = Meaning((), view, figure), []
    for name, num in lets:
        names.append((name, meaning.value(num)))
        meaning = Meaning(names, view, figure)
    way = next((way for test, way in clauses if meaning.value(test)), last)
    return tuple(names), way, meaning.step(way)
