"""What an integer, a row, a name, a size, a promise and a limit are."""

from cellsatonce.errors import BadPromise, BadSetting

# The kinds of cells and the promises have the same names.
KINDS = ("safe", "regular", "atomic")
SIDES = ("writer", "reader")
# Stands in states, steps and watches for a value where there is none.
NONE = -1
LONGEST_NAME = 8
LEAST_SIZE = 2
MOST_SIZE = 4
# The greatest limit of an exploring, and the one that is taken where none is passed.
MOST_REACHED = 3000


def is_integer(value):
    """True for an int that is not a bool."""
    return isinstance(value, int) and not isinstance(value, bool)


def is_between(value, low, high):
    """True for an integer from low to high."""
    return is_integer(value) and low <= value <= high


def is_row(value):
    """True for a list or a tuple."""
    return isinstance(value, (list, tuple))


def is_name(value):
    """True for a string of 1 to 8 lowercase letters from a to z."""
    if not isinstance(value, str) or not 1 <= len(value) <= LONGEST_NAME:
        return False
    return all(["a" <= letter <= "z" for letter in value])


def is_size(value):
    """True for the size of a cell, of a local variable or of a house."""
    return is_between(value, LEAST_SIZE, MOST_SIZE)


def check_promise(promise):
    """Raise BadPromise if this is not one of the three promises."""
    if promise not in KINDS:
        raise BadPromise()


def check_limit(limit):
    """Raise BadSetting if this is not a limit of an exploring."""
    if not is_between(limit, 1, MOST_REACHED):
        raise BadSetting("limit")


def check_side(side):
    """Raise BadSetting if this is neither the writer nor the reader."""
    if side not in SIDES:
        raise BadSetting("side")
