"""A desk: rows and rules by names, and lines that ask for them and change them."""

from compassless.checks import require
from compassless.deskanswers import find_answer, find_changed, find_made
from compassless.desklines import find_wrong_word, kinds_and_words
from compassless.errors import InvalidLine, NoName, NothingToUndo
from compassless.placetexts import place_line, read_place
from compassless.showing import show_rule

MAKING = ("draw", "row", "rule")
CHANGING = ("tick", "push", "join", "drop")
OPENING = ("row", "rule")


def saved_line(name, told):
    """The line that makes the row or the rule of this name anew."""
    kind, thing = told
    if kind == "row":
        return f"row {name} {place_line(thing)}"
    text = show_rule(thing).replace("\n", "; ")
    return f"rule {name} {text}" if text != "" else f"rule {name}"


class Desk:
    """Rows and rules by names, at first none."""

    def __init__(self):
        # Pairs of "row" or "rule" and what has the name.
        self._things = {}
        # For each change its line, the name, and what had it before, or None.
        self._past = []

    def do(self, line):
        """Does the line, and returns its answer."""
        require(isinstance(line, str) and "\n" not in line, "line")
        words = line.split(" ")
        wrong = find_wrong_word(words)
        if wrong is not None:
            raise InvalidLine(wrong)
        given = [self._value(kind, word) for kind, word in kinds_and_words(words)]
        head = words[0]
        if head == "undo":
            return self._take_back()
        if head in MAKING:
            name, text = given
            kind, thing, many = find_made(head, text)
            self._put(line, name, (kind, thing))
            return f"{name} {many}"
        if head in CHANGING:
            row = find_changed(head, given)
            self._put(line, words[1], ("row", row))
            return place_line(row)
        return find_answer(head, given)

    def saved(self):
        """The lines that make all rows and rules anew."""
        return "\n".join([saved_line(name, self._things[name]) for name in self.names()])

    def names(self):
        """The ascending tuple of the names."""
        return tuple(sorted(list(self._things)))

    def _value(self, kind, word):
        """What the word stands for."""
        if kind in ("row", "rule"):
            if word not in self._things or self._things[word][0] != kind:
                raise NoName(word)
            return self._things[word][1]
        if kind == "number":
            return int(word)
        return read_place(word) if kind == "place" else word

    def _put(self, line, name, thing):
        self._past.append((line, name, self._things.get(name)))
        self._things[name] = thing

    def _take_back(self):
        """Takes back the last change, and returns its line."""
        if self._past == []:
            raise NothingToUndo(1)
        line, name, before = self._past.pop()
        if before is None:
            del self._things[name]
        else:
            self._things[name] = before
        return line


def open_desk(text):
    """A desk that has done the lines of the text, and can't undo them."""
    require(isinstance(text, str), "text")
    desk = Desk()
    lines = text.split("\n") if text != "" else []
    for line in lines:
        if line.split(" ")[0] not in OPENING:
            raise InvalidLine(0)
        desk.do(line)
    desk._past = []
    return desk
