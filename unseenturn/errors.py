"""The errors of the program. Numbers in their fields are counted from 0."""


class UnseenError(ValueError):
    """What was handed in isn't what it has to be."""


class BadTable(UnseenError):
    """No TABLE; place tells what of it can't be."""

    def __init__(self, place=None):
        self.place = place


class BadStand(UnseenError):
    """No STAND; number tells the first thing that can't be."""

    def __init__(self, number=None):
        self.number = number


class BadTurning(UnseenError):
    """No TURNING; number tells the first thing that can't be."""

    def __init__(self, number=None):
        self.number = number


class BadWish(UnseenError):
    """No WISH; number tells the first thing that can't be."""

    def __init__(self, number=None):
        self.number = number


class BadLot(UnseenError):
    """No LOT; number tells the first thing that can't be."""

    def __init__(self, number=None):
        self.number = number


class BadRow(UnseenError):
    """No ROW; number tells the first thing that can't be."""

    def __init__(self, number=None):
        self.number = number


class BadPattern(UnseenError):
    """No PATTERN; number tells the first thing that can't be."""

    def __init__(self, number=None):
        self.number = number


class BadFelt(UnseenError):
    """No faces for a PATTERN; number tells the first thing that can't be."""

    def __init__(self, number=None):
        self.number = number


class BadHearing(UnseenError):
    """No HEARING; step tells the first one that can't be."""

    def __init__(self, step=None):
        self.step = step


class BadRun(UnseenError):
    """No RUN; place tells what of it can't be."""

    def __init__(self, place=None):
        self.place = place


class BadPaper(UnseenError):
    """A paper that doesn't show what it has to; place tells where."""

    def __init__(self, place=None):
        self.place = place


class NotEven(UnseenError):
    """A WISH that isn't EVEN."""


class OutOfPlace(UnseenError):
    """A thing that doesn't belong there."""


class TooGreat(UnseenError):
    """More than the program takes on."""


class MissError(LookupError):
    """What was asked for isn't there."""


class Never(MissError):
    """It can't be, whatever is done."""


class NotSure(MissError):
    """It isn't so for all that can be."""


class Inside(MissError):
    """A STAND that isn't OUTSIDE; step tells its STEP."""

    def __init__(self, step):
        self.step = step


class StateError(RuntimeError):
    """What can't be done now."""


class Rung(StateError):
    """The bell rang already."""


class Untimely(StateError):
    """It isn't the time for that."""
