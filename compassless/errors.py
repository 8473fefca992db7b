"""All errors: one base, four families, and seventeen errors with fields."""


class FloorError(ValueError):
    """The base of all errors of the package."""


class PaperError(FloorError):
    """A paper, or another thing that a checker reads, is refused."""


class WorldError(FloorError):
    """What was passed is not usable, or not of the class that is asked for."""


class LiveError(FloorError):
    """Something that was to happen can't happen."""


class TextError(FloorError):
    """A text can't be read."""


class InvalidPaper(PaperError):
    """The first entry of a checker's list that applies, and where."""

    def __init__(self, word, at):
        self.word = word
        self.at = at


class NotUsable(WorldError):
    """The parameter called word is not as stated; at is -1 or the number of an argument."""

    def __init__(self, word, at):
        self.word = word
        self.at = at


class NoCentre(WorldError):
    """A standing with this sum has no centre."""

    def __init__(self, total):
        self.total = total


class NotUneven(WorldError):
    """A standing of the class told is not uneven."""

    def __init__(self, told):
        self.told = told


class NotHeld(WorldError):
    """A standing of the class told is not held."""

    def __init__(self, told):
        self.told = told


class NotPinned(WorldError):
    """A standing of the class told is not pinned."""

    def __init__(self, told):
        self.told = told


class NotFit(WorldError):
    """A standing of the class told does not fit the figure."""

    def __init__(self, told):
        self.told = told


class NotMeeting(WorldError):
    """The robots of a standing of the class told can't meet."""

    def __init__(self, told):
        self.told = told


class TooMany(WorldError):
    """There are more than limit."""

    def __init__(self, limit):
        self.limit = limit


class Blocked(LiveError):
    """The move from this place leads to a taken or a shared goal."""

    def __init__(self, place):
        self.place = place


class Clash(LiveError):
    """The step of this robot clashes."""

    def __init__(self, robot):
        self.robot = robot


class InvalidEvent(LiveError):
    """The event can't be done, for this reason."""

    def __init__(self, event, reason):
        self.event = event
        self.reason = reason


class NothingToUndo(LiveError):
    """There are fewer than so many steps to take back."""

    def __init__(self, steps):
        self.steps = steps


class InvalidText(TextError):
    """The field of the line is not as a text of this kind has it."""

    def __init__(self, line, field):
        self.line = line
        self.field = field


class InvalidRule(TextError):
    """The word of the line can't stand in the text of a rule, for this reason."""

    def __init__(self, line, word, reason):
        self.line = line
        self.word = word
        self.reason = reason


class InvalidLine(TextError):
    """The word is the first one that can't stand in the line."""

    def __init__(self, word):
        self.word = word


class NoName(TextError):
    """Nothing of the wanted kind has this name."""

    def __init__(self, name):
        self.name = name
