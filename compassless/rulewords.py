"""The words of a rule's text, line by line."""

from compassless.checks import require
from compassless.errors import InvalidRule
from compassless.placetexts import DIGITS
from compassless.ruletrees import LETTERS

SIGNS = ("(", ")", "[", "]", ",", "=", "<", "<=", "+", "-", "*")
BLANK = " "


def end_of(line, at, signs):
    """The first index from at on at which none of the signs stands."""
    while at < len(line) and line[at] in signs:
        at += 1
    return at


def word_end(line, at):
    """The index behind the word that begins at this index, or at itself if none does."""
    if line[at] in LETTERS:
        return end_of(line, at, LETTERS + DIGITS)
    if line[at] in DIGITS:
        return end_of(line, at, DIGITS)
    # Of < and <= the longer one.
    for long in (2, 1):
        if line[at:at + long] in SIGNS:
            return at + len(line[at:at + long])
    return at


def line_words(number, line):
    """The words of the line with this number."""
    words = []
    at = end_of(line, 0, BLANK)
    while at < len(line):
        end = word_end(line, at)
        if end == at:
            raise InvalidRule(number, len(words), "sign")
        words.append(line[at:end])
        at = end_of(line, end, BLANK)
    return tuple(words)


def find_words(text):
    """For each line of the text the tuple of its words."""
    lines = text.replace(";", "\n").split("\n")
    return tuple([line_words(number, lines[number]) for number in range(len(lines))])


def words_of(text):
    """For each line of the text the tuple of its words."""
    require(isinstance(text, str), "text")
    return find_words(text)
