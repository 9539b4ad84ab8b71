"""What no house can do whose reader writes nothing."""

from cellsatonce.errors import NoCase
from cellsatonce.forms import MOST_REACHED
from cellsatonce.kept import breaking


def not_atomic(house, *, limit=MOST_REACHED):
    """Give a run that shows that such a house does not keep "atomic"."""
    if any([cell.owner == "reader" for cell in house.cells]):
        raise NoCase("owner")
    if any([cell.kind == "atomic" for cell in house.cells]):
        raise NoCase("atomic")
    if has_loop(house.writer) or has_loop(house.reader):
        raise NoCase("while")
    return breaking(house, "atomic", limit=limit)


def has_loop(program):
    """True if a "while" stands in the program."""
    return any([triple[2][0] == "while" for triple in program.walk()])
