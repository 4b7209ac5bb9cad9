"""The errors that the package raises."""


class StoreError(ValueError):
    """Stands above all errors of the package."""


class BadMachine(StoreError):
    """Something is no machine; part is the word for what is wrong with it."""

    def __init__(self, part):
        self.part = part


class BadProgram(StoreError):
    """Something is no program; index is the place of what is no instruction."""

    def __init__(self, index):
        self.index = index


class BadLine(StoreError):
    """A text has a word that cannot stand in this line, at this place."""

    def __init__(self, line, place):
        self.line = line
        self.place = place


class TooMany(StoreError):
    """An answer would need more than so many."""

    def __init__(self, most):
        self.most = most


class BadInputs(StoreError):
    """Something is no tuple of inputs."""


class BadNumber(StoreError):
    """Something is no integer, or none that is allowed here."""


class BadMemory(StoreError):
    """Something is no memory of the machine."""


class BadRows(StoreError):
    """Something is no row, or no tuple of rows, as is needed here."""


class NoWay(StoreError):
    """There is no such answer."""


class BadString(StoreError):
    """Something is no string."""
