"""The errors of the package, each with the fields that it is made with."""


class OwedError(ValueError):
    """Any error of the package."""


class BadSymbol(OwedError):
    """A string that is no symbol of a form."""

    def __init__(self, symbol):
        super().__init__(f"{symbol!r} is no symbol")
        self.symbol = symbol


class BadDomain(OwedError):
    """A symbol that a domain can't have in this way."""

    def __init__(self, symbol):
        super().__init__(f"{symbol!r} does not fit in the domain")
        self.symbol = symbol


class BadFunction(OwedError):
    """The first wrong row of a function, -1 if there is no text at all."""

    def __init__(self, row):
        super().__init__(f"row {row!r} is wrong")
        self.row = row


class TooMany(OwedError):
    """More rows or lists than a function may have."""

    def __init__(self, what):
        super().__init__(f"too many {what}")
        self.what = what


class NotCut(OwedError):
    """A row that can't be cut, or was named before."""

    def __init__(self, row):
        super().__init__(f"row {row!r} can't be cut, or was named before")
        self.row = row


class Amid(OwedError):
    """A line amid an ask or an answer."""

    def __init__(self, half):
        super().__init__(f"the mark of the line is {half!r}")
        self.half = half


class Closed(OwedError):
    """A line that is closed."""

    def __init__(self, number):
        super().__init__(f"line {number!r} is closed")
        self.number = number


class Starved(OwedError):
    """A line on which no answer is owed."""

    def __init__(self, number):
        super().__init__(f"nothing is owed on line {number!r}")
        self.number = number


class Failed(OwedError):
    """A deed that failed at a row."""

    def __init__(self, row):
        super().__init__(f"failed at row {row!r}")
        self.row = row


class Cut(OwedError):
    """A deed that was cut at a row."""

    def __init__(self, row):
        super().__init__(f"cut at row {row!r}")
        self.row = row


class BadDoor(OwedError):
    """A word that no door has."""

    def __init__(self, word):
        super().__init__(f"{word!r} is no word of a door")
        self.word = word


class BadName(OwedError):
    """A name that no borrower has."""

    def __init__(self, name):
        super().__init__(f"{name!r} is no name of a borrower")
        self.name = name


class NotLent(OwedError):
    """A line that is not lent at the moment."""

    def __init__(self, number):
        super().__init__(f"line {number!r} is not lent")
        self.number = number


class BadMove(OwedError):
    """A step that is not possible there."""

    def __init__(self, at):
        super().__init__(f"step {at!r} is not possible")
        self.at = at


class Faulty(OwedError):
    """A function that has a run with a fault."""

    def __init__(self, kind, lengths, moves):
        super().__init__(f"a run has the fault {kind!r}")
        self.kind = kind
        self.lengths = lengths
        self.moves = moves
