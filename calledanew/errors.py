"""The errors of the package, each directly under CalledError."""


class CalledError(ValueError):
    """The base class of all errors of the package."""


class InvalidPart(CalledError):
    """The components do not make a part; `part` names what failed first, `path` says where."""

    def __init__(self, part, path):
        self.part = part
        self.path = path


class InvalidRule(CalledError):
    """The components do not make a rule; `part` names the first that failed."""

    def __init__(self, part):
        self.part = part


class InvalidStart(CalledError):
    """The words do not fit the inputs of the part."""

    def __init__(self, words):
        self.words = words


class InvalidEvent(CalledError):
    """The value is no event of the part."""

    def __init__(self, event):
        self.event = event


class InvalidPath(CalledError):
    """The value is no path of the wanted row or function."""

    def __init__(self, path):
        self.path = path


class InvalidBound(CalledError):
    """The value is no integer within its limits."""

    def __init__(self, value):
        self.value = value


class InvalidText(CalledError):
    """The line with this number is not allowed."""

    def __init__(self, line):
        self.line = line


class UnknownInput(CalledError):
    """The value is no input of the part."""

    def __init__(self, name):
        self.name = name


class UnknownWord(CalledError):
    """The value is no word of the part."""

    def __init__(self, word):
        self.word = word


class UnknownEvent(CalledError):
    """The value is none of the events of the part."""

    def __init__(self, event):
        self.event = event


class Slipped(CalledError):
    """The hooks of a call do not fit the entries."""

    def __init__(self, path):
        self.path = path


class TooManyLater(CalledError):
    """A function is put off while three wait already."""

    def __init__(self, path):
        self.path = path


class TooManyCalls(CalledError):
    """One more call than `most` would begin."""

    def __init__(self, most):
        self.most = most


class LimitExceeded(CalledError):
    """More was found than `limit` allows."""

    def __init__(self, limit):
        self.limit = limit


class NoFault(CalledError):
    """The book does not have this fault."""

    def __init__(self, kind, path):
        self.kind = kind
        self.path = path


class InvalidKind(CalledError):
    """The value is no kind of fault."""

    def __init__(self, kind):
        self.kind = kind


class NotComparable(CalledError):
    """The two parts differ in the component that `part` names."""

    def __init__(self, part):
        self.part = part


class InvalidChange(CalledError):
    """The item at this index cannot be used as a change."""

    def __init__(self, index):
        self.index = index


class NoFunction(CalledError):
    """The value is no path of a function of the part."""

    def __init__(self, path):
        self.path = path


class InvalidStanding(CalledError):
    """The value is no standing of the part."""


class NothingToUndo(CalledError):
    """Nothing is there that could be taken back."""


class NoStanding(CalledError):
    """The value is no standing of the book."""


class NothingToRedo(CalledError):
    """Nothing is there that could be done again."""
