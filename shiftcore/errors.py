"""The errors of the package: one class for each kind of failure."""


class ShiftError(ValueError):
    """The base class of all errors of the package."""


class BadWeb(ShiftError):
    """Raised for a value that is not a web; `index` is the index of the first wrong edge, or None."""

    def __init__(self, index):
        super().__init__("a value that is not a web")
        self.index = index


class BadWord(ShiftError):
    """Raised for a value that is not such a word."""


class BadLength(ShiftError):
    """Raised for a value that is not such a length."""


class NotWhole(ShiftError):
    """Raised for a web, a matrix, roads or a chain that is not whole."""


class BadLetters(ShiftError):
    """Raised for a value that is not such a number of letters."""


class BadBars(ShiftError):
    """Raised for a value that is not a tuple of bars; `index` is the index of the first wrong bar, or None."""

    def __init__(self, index):
        super().__init__("a value that is not a tuple of bars")
        self.index = index


class BadPolynomial(ShiftError):
    """Raised for a value that is not such a polynomial."""


class BadMatrix(ShiftError):
    """Raised for a value that is not a matrix."""


class BadState(ShiftError):
    """Raised for a value that is not such a state."""


class BadSplit(ShiftError):
    """Raised for a value that does not split a row."""


class NotAlive(ShiftError):
    """Raised for a matrix that is not full of life."""


class NotFinite(ShiftError):
    """Raised for a web that is not finite to one."""


class NotResolving(ShiftError):
    """Raised for a web that is not resolving, or has no delay."""


class BadMachine(ShiftError):
    """Raised for a value that is not a machine."""


class BadRoads(ShiftError):
    """Raised for a value that is not roads; `index` is the index of the first wrong row, or None."""

    def __init__(self, index):
        super().__init__("a value that is not roads")
        self.index = index


class BadRule(ShiftError):
    """Raised for a value that is not a rule."""


class BadWeights(ShiftError):
    """Raised for a value that is not weights of letters."""


class BadPattern(ShiftError):
    """Raised for a value that is not a pattern."""


class BadNumber(ShiftError):
    """Raised for a value that is not such a number."""


class BadTurns(ShiftError):
    """Raised for a value that is not a turn map."""


class NotRising(ShiftError):
    """Raised for a turn map that is not rising."""


class NotLinear(ShiftError):
    """Raised for turn maps that do not make a turn map together."""


class BadTable(ShiftError):
    """Raised for a value that is not a growth table."""


class BadName(ShiftError):
    """Raised for a value that is not a name."""


class NoName(ShiftError):
    """Raised for a name that is not on the shelf."""


class NothingToUndo(ShiftError):
    """Raised for no change that can be taken back."""


class BadWanted(ShiftError):
    """Raised for a value that is not a dict of wanted webs."""


class BadChain(ShiftError):
    """Raised for a value that is not a chain."""


class BadParts(ShiftError):
    """Raised for a value that is not parts of a chain."""


class BadCode(ShiftError):
    """Raised for a value that is not a code table."""


class NotText(ShiftError):
    """Raised for a value that is not a string."""


class InvalidText(ShiftError):
    """Raised for a text that does not name a web; `place` is the index of the first wrong character."""

    def __init__(self, place):
        super().__init__("a text that does not name a web")
        self.place = place


class TooMany(ShiftError):
    """Raised for more things than may be; `most` is the number of things that may be."""

    def __init__(self, most):
        super().__init__("more things than may be")
        self.most = most
