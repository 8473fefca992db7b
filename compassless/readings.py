"""Reading rules: from the words of a text to the tree."""

from compassless.checks import require
from compassless.errors import InvalidRule
from compassless.placetexts import DIGITS
from compassless.ruletrees import CALLS, LETTERS, SHORT_WAYS, STAY, WORDS, is_language, is_much, is_name
from compassless.rulewords import find_words

MOST_DIGITS = 6
COMPARING = {"=": "eq", "<": "less", "<=": "most"}


def is_digits(word):
    return word != "" and word[0] in DIGITS


def is_written(word):
    """True if these digits are a number as it is written: not too long, no needless 0."""
    return len(word) <= MOST_DIGITS and (word == "0" or word[0] != "0")


def leaf_of(names, word):
    """The num that this word alone is, or None."""
    if is_digits(word):
        return ("num", int(word)) if is_written(word) else None
    if word in WORDS:
        return ("word", word)
    return ("name", word) if word in names else None


def why_no_atom(word):
    """The reason for which this word can't stand where an atom could."""
    if word == "":
        return "end"
    if is_digits(word):
        return "number"
    return "name" if word[0] in LETTERS and not is_language(word) else "word"


class LineReader:
    """Reads the words of one line, from the first one to the last one."""

    def __init__(self, number, words, names):
        self._number = number
        self._words = words
        self._names = names
        self._at = 0

    def ahead(self):
        """The word that comes next, empty at the end of the line."""
        return self._words[self._at] if self._at < len(self._words) else ""

    def refuse(self, reason):
        """Tells that the word that comes next can't stand there, if it is a word at all."""
        raise InvalidRule(self._number, self._at, "end" if self.ahead() == "" else reason)

    def skips(self, words):
        """True if the next word is one of these; then it is passed."""
        if self.ahead() == "" or self.ahead() not in words:
            return False
        self._at += 1
        return True

    def take(self, word):
        """Passes the next word, which must be this one."""
        if not self.skips((word,)):
            self.refuse("word")

    def finish(self):
        """Nothing may stand behind what was read."""
        if self.ahead() != "":
            self.refuse("word")

    def read_nums(self, many):
        """So many nums in round brackets, parted by commas."""
        self.take("(")
        nums = [self.read_num()]
        while len(nums) < many:
            self.take(",")
            nums.append(self.read_num())
        self.take(")")
        return tuple(nums)

    def read_atom(self):
        word = self.ahead()
        leaf = leaf_of(self._names, word)
        if leaf is not None:
            self._at += 1
            return leaf
        if self.skips(("-",)):
            return ("neg", self.read_atom())
        if word == "(":
            return self.read_nums(1)[0]
        if self.skips(list(CALLS)):
            return ("call", word, self.read_nums(CALLS[word]))
        return self.refuse(why_no_atom(word))

    def read_term(self):
        num = self.read_atom()
        while self.skips(("*",)):
            num = ("times", num, self.read_atom())
        return num

    def read_num(self):
        num = self.read_term()
        while self.ahead() in ("+", "-"):
            head = "plus" if self.ahead() == "+" else "minus"
            self._at += 1
            num = (head, num, self.read_term())
        return num

    def read_one(self):
        if self.skips(("not",)):
            return ("not", self.read_one())
        if self.skips(("[",)):
            test = self.read_test()
            self.take("]")
            return test
        num = self.read_num()
        sign = self.ahead()
        if not self.skips(("=", "<", "<=")):
            self.refuse("word")
        return (COMPARING[sign], num, self.read_num())

    def read_both(self):
        test = self.read_one()
        while self.skips(("and",)):
            test = ("and", test, self.read_one())
        return test

    def read_test(self):
        test = self.read_both()
        while self.skips(("or",)):
            test = ("or", test, self.read_both())
        return test

    def read_way(self):
        word = self.ahead()
        if self.skips(SHORT_WAYS):
            return (word,)
        self.take("along")
        first, second = self.read_nums(2)
        return ("along", first, second)

    def read_let(self):
        """The pair of a name and a num, behind let."""
        self.take("let")
        name = self.ahead()
        if name in self._names:
            self.refuse("name")
        if not is_name(name):
            self.refuse("word")
        self._at += 1
        self.take("=")
        return (name, self.read_num())

    def read_clause(self):
        """The pair of a test and a way, behind when."""
        self.take("when")
        test = self.read_test()
        self.take("go")
        return (test, self.read_way())

    def read_last(self):
        """The way behind else."""
        self.take("else")
        self.take("go")
        return self.read_way()


def read_lines(lines):
    """The lets, the clauses and the last way of the lines' words."""
    lets = []
    clauses = []
    last = None
    for number in range(len(lines)):
        reader = LineReader(number, lines[number], [name for name, _ in lets])
        word = reader.ahead()
        if word == "let" and clauses == [] and last is None:
            lets.append(reader.read_let())
        elif word == "when" and last is None:
            clauses.append(reader.read_clause())
        elif word == "else" and last is None:
            last = reader.read_last()
        # A line without words is at its end, and any other word is one too many.
        reader.finish()
    return (tuple(lets), tuple(clauses), STAY if last is None else last)


def find_rule(text):
    lets, clauses, last = read_lines(find_words(text))
    rule = ("rule", lets, clauses, last)
    if is_much(rule):
        raise InvalidRule(-1, -1, "much")
    return rule


def read_rule(text):
    """The rule that the text tells."""
    require(isinstance(text, str), "text")
    return find_rule(text)
