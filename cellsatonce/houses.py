"""The houses: a few cells with the two programs that make one larger cell of them."""

from cellsatonce.cells import Cell
from cellsatonce.errors import BadHouse
from cellsatonce.forms import KINDS, is_between, is_row, is_size
from cellsatonce.plans import plan_of
from cellsatonce.programs import Program

MOST_CELLS = 4


class House:
    """A house: its cells, the writer's program, the reader's, and the made cell's size and start."""

    def __init__(self, cells, writer, reader, *, size=2, start=0):
        if not are_cells(cells):
            raise BadHouse("cells")
        if not is_program_for(writer, "writer", cells):
            raise BadHouse("writer")
        if not is_program_for(reader, "reader", cells):
            raise BadHouse("reader")
        if not is_size(size):
            raise BadHouse("size")
        if not is_between(start, 0, size - 1):
            raise BadHouse("start")
        self.cells = tuple(cells)
        self.writer = writer
        self.reader = reader
        self.size = size
        self.start = start
        # Made here once, since every move asks for them.
        self.plans = {
            "writer": plan_of(writer, self.cells, size),
            "reader": plan_of(reader, self.cells, size),
        }

    def __eq__(self, other):
        return (isinstance(other, House) and self.cells == other.cells and self.writer == other.writer
                and self.reader == other.reader and self.size == other.size and self.start == other.start)

    def __contains__(self, name):
        return name in [cell.name for cell in self.cells]

    def cell(self, name):
        """Give the cell of this name."""
        for cell in self.cells:
            if cell.name == name:
                return cell
        raise BadHouse("cells")

    def with_kinds(self, kinds):
        """Give the house with these kinds of cells, one for each cell in order."""
        if not is_row(kinds) or len(kinds) != len(self.cells):
            raise BadHouse("cells")
        if not all([kind in KINDS for kind in kinds]):
            raise BadHouse("cells")
        cells = [cell.with_kind(kind) for cell, kind in zip(self.cells, kinds)]
        return House(cells, self.writer, self.reader, size=self.size, start=self.start)

    def with_programs(self, writer, reader):
        """Give the house with other programs."""
        return House(self.cells, writer, reader, size=self.size, start=self.start)


def are_cells(cells):
    """True for the cells of a house."""
    if not is_row(cells) or len(cells) > MOST_CELLS:
        return False
    if not all([isinstance(cell, Cell) for cell in cells]):
        return False
    return len(set([cell.name for cell in cells])) == len(cells)


def is_program_for(program, side, cells):
    """True for a program of this side that gets and writes only what it may of these cells."""
    if not isinstance(program, Program) or program.side != side:
        return False
    owners = {cell.name: cell.owner for cell in cells}
    return all([may_stand(triple[2], side, owners) for triple in program.walk()])


def may_stand(statement, side, owners):
    """True if the cell that the statement names, if any, is there and open to this side."""
    if statement[0] == "write":
        return owners.get(statement[1]) == side
    return statement[0] != "get" or statement[2] in owners
