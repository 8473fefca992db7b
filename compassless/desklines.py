"""The lines of a desk: which words can stand where."""

from compassless.placetexts import DIGITS, read_place
from compassless.ruletrees import LETTERS, LONGEST_NAME

# For each first word the kinds of the words behind it.
SHAPES = {
    "draw": ("name", "drawing"),
    "row": ("name", "places"),
    "rule": ("name", "text"),
    "show": ("row",),
    "places": ("row",),
    "class": ("row",),
    "meets": ("row",),
    "fits": ("row", "row"),
    "why": ("row", "row"),
    "house": ("row", "row"),
    "left": ("row", "row"),
    "most": ("row", "row"),
    "needed": ("row", "row"),
    "verdict": ("row", "row", "rule", "number"),
    "route": ("row", "row", "row", "row", "row", "row"),
    "tick": ("row", "row", "rule", "lot"),
    "push": ("row", "number", "place"),
    "join": ("row", "place"),
    "drop": ("row", "number"),
    "undo": (),
}
# How many of the last words may be missing.
MISSING = {"rule": 1, "route": 5}
NAMES = ("name", "row", "rule")
# These take all words up to the end of the line.
RESTS = ("places", "text", "lot")
MOST_DIGITS = 3


def is_desk_name(word):
    """True if the word is a small letter with at most eleven small letters or digits behind it."""
    if word == "" or len(word) > LONGEST_NAME or word[0] not in LETTERS:
        return False
    return all([sign in LETTERS + DIGITS for sign in word])


def is_short_number(word):
    """True if the word is one to three digits, without a needless 0."""
    if word == "" or len(word) > MOST_DIGITS or not all([sign in DIGITS for sign in word]):
        return False
    return word == "0" or word[0] != "0"


def can_stand(kind, word):
    """True if the word is of the kind; None is the kind of a word too many."""
    if kind in NAMES:
        return is_desk_name(word)
    if kind == "number":
        return is_short_number(word)
    if kind == "place":
        return read_place(word) is not None
    if kind == "lot":
        return word != "" and ";" not in word
    return kind is not None


def kind_at(kinds, k):
    """The kind of word k of a line, None if no word can stand there."""
    if k <= len(kinds):
        return kinds[k - 1]
    return kinds[-1] if kinds != () and kinds[-1] in RESTS else None


def find_wrong_word(words):
    """The first word that can't stand where it does, or the number of words of too short a line; or None."""
    if words[0] not in SHAPES:
        return 0
    kinds = SHAPES[words[0]]
    for k in range(1, len(words)):
        if not can_stand(kind_at(kinds, k), words[k]):
            return k
    least = 1 + len(kinds) - (MISSING[words[0]] if words[0] in MISSING else 0)
    return len(words) if len(words) < least else None


def kinds_and_words(words):
    """The pairs of a kind and its word, or its words up to the end of the line, behind the first word."""
    kinds = SHAPES[words[0]]
    found = []
    for k in range(len(kinds)):
        if kinds[k] in RESTS:
            found.append((kinds[k], " ".join(words[k + 1:])))
        elif k + 1 < len(words):
            found.append((kinds[k], words[k + 1]))
    return found
