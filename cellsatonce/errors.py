"""The errors of the package."""


class CellError(ValueError):
    """The base class of all errors of the package."""


class BadHistory(CellError):
    """The event with this index cannot stand in a history; -1 if the history is not a row."""

    def __init__(self, index):
        self.index = index


class BadSetting(CellError):
    """The setting of this name is not as it must be."""

    def __init__(self, part):
        self.part = part


class BadPromise(CellError):
    """A promise is none of the three."""


class NoRead(CellError):
    """No read is under way."""


class BadCell(CellError):
    """This part of a cell is not as it must be."""

    def __init__(self, part):
        self.part = part


class BadProgram(CellError):
    """The statement with this place is wrong, and why; -1 if it is the program as a whole."""

    def __init__(self, place, why):
        self.place = place
        self.why = why


class BadHouse(CellError):
    """This part of a house is not as it must be."""

    def __init__(self, why):
        self.why = why


class BadStep(CellError):
    """The step with this index is not possible; -1 if there is no row of steps, or no step."""

    def __init__(self, index):
        self.index = index


class TooMany(CellError):
    """A house has more than this many of what is counted."""

    def __init__(self, limit):
        self.limit = limit


class NoPromise(CellError):
    """A house does not keep the promise."""


class BadLot(CellError):
    """A lot is not one of the house."""


class NotLeast(CellError):
    """The cell with this index may be weaker."""

    def __init__(self, index):
        self.index = index


class NoCase(CellError):
    """Nothing is known of the house by its form alone, and why."""

    def __init__(self, why):
        self.why = why


class BadText(CellError):
    """The line with this number has no form; 0 or -1 if it is the text as a whole."""

    def __init__(self, line):
        self.line = line
