"""The cells of a house."""

from cellsatonce.errors import BadCell
from cellsatonce.forms import KINDS, SIDES, is_between, is_name, is_size

RANKS = {"safe": 0, "regular": 1, "atomic": 2}


class Cell:
    """A cell, which holds one integer: one side owns and writes it, both sides may read it."""

    def __init__(self, name, kind, size, start=0, *, owner="writer"):
        if not is_name(name):
            raise BadCell("name")
        if kind not in KINDS:
            raise BadCell("kind")
        if not is_size(size):
            raise BadCell("size")
        if not is_between(start, 0, size - 1):
            raise BadCell("start")
        if owner not in SIDES:
            raise BadCell("owner")
        self.name = name
        self.kind = kind
        self.size = size
        self.start = start
        self.owner = owner

    def __eq__(self, other):
        return (isinstance(other, Cell) and self.name == other.name and self.kind == other.kind
                and self.size == other.size and self.start == other.start and self.owner == other.owner)

    @property
    def rank(self):
        """0, 1 or 2, from the weakest kind to the strongest."""
        return RANKS[self.kind]

    def with_kind(self, kind):
        """Give the same cell with another kind."""
        return Cell(self.name, kind, self.size, self.start, owner=self.owner)

    def weaker_than(self, other):
        """True if both differ in nothing but the kind, and this one's rank is less."""
        return self.rank < other.rank and self.with_kind(other.kind) == other
