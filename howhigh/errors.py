"""The errors of the package: each derives directly from HighError."""


class HighError(ValueError):
    """What all errors of the package are."""


class NoName(HighError):
    """A name that is not among those that are there."""

    def __init__(self, name):
        self.name = name


class BadProgram(HighError):
    """What is handed in is no program: part is "names", "bodies" or "main"."""

    def __init__(self, part):
        self.part = part


class BadRows(HighError):
    """What is no strictly ascending row of numbers of add and lift rows."""


class BadWay(HighError):
    """What is no way of the program."""


class BadStarts(HighError):
    """What are no starts of the program."""


class Over(HighError):
    """A choice in a run that is over."""


class BadChoice(HighError):
    """What cannot be chosen here."""


class TooLong(HighError):
    """A run with too many steps or too great a number."""


class NothingDone(HighError):
    """There is nothing that could be taken back."""


class BadChoices(HighError):
    """A row of choices that does not fit: index is the number of the first wrong one."""

    def __init__(self, index):
        self.index = index


class NotTop(HighError):
    """What is no tuple of the frontier."""


class NoBranch(HighError):
    """What is no product of the height."""


class Unlike(HighError):
    """Two programs whose names differ."""


class BadNames(HighError):
    """Names that cannot be asked for here."""


class Above(HighError):
    """A name that comes above every power."""

    def __init__(self, name):
        self.name = name


class BadProducts(HighError):
    """What is no tuple of products that can be asked for here."""


class TooMany(HighError):
    """More than can be dealt with: most is how many there may be."""

    def __init__(self, most):
        self.most = most


class Clash(HighError):
    """A word that two programs have with unlike blocks."""

    def __init__(self, word):
        self.word = word


class BadText(HighError):
    """What is no text: line is the number of the first line that cannot stand there."""

    def __init__(self, line):
        self.line = line


class NoLine(HighError):
    """What is no line that the desk knows."""


class NoProgram(HighError):
    """A name under which no program is kept."""

    def __init__(self, name):
        self.name = name


class NoRun(HighError):
    """The desk has no run."""
