"""All errors of the package: each one a direct subclass of RowError."""


class RowError(ValueError):
    """The base class of all errors here."""


class BadMany(RowError):
    """The number of places is no integer from 1 to 8."""


class BadRules(RowError):
    """A value is no ascending tuple of unlike rules: index tells where, None for no tuple."""

    def __init__(self, index):
        super().__init__(f"no ascending rules, at index {index}")
        self.index = index


class NoRules(RowError):
    """A value stands where Rules must stand."""


class BadRow(RowError):
    """A value is no row of these places."""


class NotKept(RowError):
    """A row does not keep the rules."""


class BadIndex(RowError):
    """A value is no number or index of what it should count."""


class BadWant(RowError):
    """A value is no want of these places."""


class BadRule(RowError):
    """A value is no rule of these places."""


class BadWants(RowError):
    """A value is no ascending tuple of wants of unlike places."""


class BadOrder(RowError):
    """A value is no tuple of all places, each once."""


class BadPlaces(RowError):
    """A value is no ascending tuple of unlike places, or is empty where some must be named."""


class Unlike(RowError):
    """Two things have unlike numbers of places."""


class TooMany(RowError):
    """There are more than most of what is counted."""

    def __init__(self, most):
        super().__init__(f"more than {most}")
        self.most = most


class BadLot(RowError):
    """A value is no lot: index tells where, None for no tuple or an empty one."""

    def __init__(self, index):
        super().__init__(f"no lot, at index {index}")
        self.index = index


class BadPlace(RowError):
    """A value is no place of these rows."""


class NotThere(RowError):
    """A rule is not among the rules."""


class BadMost(RowError):
    """A value is no depth from 0 to 8."""


class BadTold(RowError):
    """A value is no tuple of at most 20 wants: index tells where, None for the tuple itself."""

    def __init__(self, index):
        super().__init__(f"no wants told in turn, at index {index}")
        self.index = index


class BadGaps(RowError):
    """A value is no tuple of 0, 1 or None for each place."""


class BadTurns(RowError):
    """A value is no turns: index tells where, None for no tuple of as many things."""

    def __init__(self, index):
        super().__init__(f"no turns, at index {index}")
        self.index = index


class BadValues(RowError):
    """A value is no tuple of values of the first turns."""


class BadPrices(RowError):
    """A value is no tuple of a price for each place."""


class BadHalves(RowError):
    """A value is no half row, or none that keeps the rules."""


class BadPayments(RowError):
    """A value is no tuple of a payment for each rule."""


class NotLeast(RowError):
    """A half row costs more than the least."""


class BadTables(RowError):
    """A value is no tables: index tells where, None for no tuple."""

    def __init__(self, index):
        super().__init__(f"no tables, at index {index}")
        self.index = index


class BadPart(RowError):
    """A value is no part of a row."""


class BadShared(RowError):
    """A value is no number of places that two tables can share."""


class TooWide(RowError):
    """There would be more than 8 places."""


class BadLog(RowError):
    """A value is no log: index tells where, None for no tuple of at most 12 things."""

    def __init__(self, index):
        super().__init__(f"no log, at index {index}")
        self.index = index


class BadAt(RowError):
    """A value is no index of a row of a run."""


class InvalidText(RowError):
    """A text is not that of rules: line and word, from 1, tell where."""

    def __init__(self, line, word):
        super().__init__(f"no text of rules, at line {line}, word {word}")
        self.line = line
        self.word = word


class NoText(RowError):
    """A value stands where a string must stand."""


class Already(RowError):
    """A rule is among the rules already."""


class BadVotes(RowError):
    """A value is no votes: index tells where, None for no tuple of 1 to 15 things."""

    def __init__(self, index):
        super().__init__(f"no votes, at index {index}")
        self.index = index


class EvenVotes(RowError):
    """There is an even number of votes."""


class BadAll(RowError):
    """A value is no number of all votes."""


class NotStraight(RowError):
    """No row keeps the rules, or two places are tied."""
