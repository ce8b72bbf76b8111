"""The errors of the package; each keeps what it was made of, the very objects."""


class PriceError(ValueError):
    """What all errors of the package are; it is never made itself."""


class InvalidNumber(PriceError):
    """A number, or a list of places, that may not stand where it was passed."""

    def __init__(self, value):
        self.value = value


class InvalidPrice(PriceError):
    """A pair (size, amounts) that makes no price."""

    def __init__(self, value):
        self.value = value


class InvalidBook(PriceError):
    """Something that is no book, or of which none can be made."""

    def __init__(self, value):
        self.value = value


class InvalidPuzzle(PriceError):
    """A part of a puzzle that is wrong, and the place of it."""

    def __init__(self, part, place):
        self.part = part
        self.place = place


class InvalidStart(PriceError):
    """Something that is no start of the puzzle."""

    def __init__(self, value):
        self.value = value


class InvalidFilling(PriceError):
    """Something that is no row of the right values."""

    def __init__(self, value):
        self.value = value


class InvalidSum(PriceError):
    """Something that is no sum over the letters."""

    def __init__(self, value):
        self.value = value


class InvalidCells(PriceError):
    """Something that is no tuple of cells for which a price may be written."""

    def __init__(self, value):
        self.value = value


class InvalidMove(PriceError):
    """Something that is no move at the desk as it stands."""

    def __init__(self, value):
        self.value = value


class InvalidQuestion(PriceError):
    """Something that is no question, or none that is watched."""

    def __init__(self, value):
        self.value = value


class InvalidText(PriceError):
    """A text that is not of the form asked for, and the place at which it is wrong."""

    def __init__(self, text, at):
        self.text = text
        self.at = at


class Undefined(PriceError):
    """A word for what stands in the way of an answer."""

    def __init__(self, what):
        self.what = what


class NothingToUndo(PriceError):
    """The word of what was asked for when there was nothing to undo or to redo."""

    def __init__(self, word):
        self.word = word
