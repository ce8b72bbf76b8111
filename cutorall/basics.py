"""What integers, values, sizes, sequences and rows are: shared by the modules of the package."""


def is_integer(value):
    """Whether value is an int that is no bool."""
    return isinstance(value, int) and not isinstance(value, bool)


def is_number(value):
    """Whether value is an integer from 0 on."""
    return is_integer(value) and value >= 0


def is_number_below(value, limit):
    """Whether value is an integer from 0 on and below limit."""
    return is_integer(value) and 0 <= value < limit


def is_value(value):
    """Whether value is the integer 0 (no) or 1 (yes)."""
    return is_number_below(value, 2)


def is_size(value):
    """Whether value is an integer from 1 to 3, the sizes that prices have."""
    return is_integer(value) and 1 <= value <= 3


def is_sequence(value):
    """Whether value may be passed where a sequence is expected."""
    return isinstance(value, (list, tuple))


def is_row(value, size):
    """Whether value is a row of size values."""
    return isinstance(value, tuple) and len(value) == size and all([is_value(member) for member in value])


def rows_of(size):
    """All rows of size values, ascending."""
    rows = [()]
    for _ in range(size):
        rows = [row + (value,) for row in rows for value in (0, 1)]
    return tuple(rows)


def row_number(row):
    """The number of a row among all rows of as many values, ascending."""
    number = 0
    for value in row:
        number = 2 * number + value
    return number
