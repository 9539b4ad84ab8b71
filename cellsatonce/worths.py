"""The values that reads tell, and other names for the cells, which do not change them."""

from cellsatonce.cells import Cell
from cellsatonce.errors import BadHouse
from cellsatonce.forms import MOST_REACHED, NONE, check_limit
from cellsatonce.houses import House
from cellsatonce.programs import PARTS, with_block
from cellsatonce.searches import Search
from cellsatonce.steps import initial, moves
from cellsatonce.waits import wandered


def told_by(house, *, limit=MOST_REACHED):
    """Give the values that a read tells in some run."""
    check_limit(limit)
    found = set()
    for way in wandered(house, limit).ways:
        for step, _ in way:
            if is_telling(step):
                found.add(step[2])
    return sorted(found)


def pairs(house, *, limit=MOST_REACHED):
    """Give the pairs of values that a read and the next one tell in some run."""
    check_limit(limit)
    search = Search((initial(house), NONE), lambda node: next_nodes(house, node), limit)
    found = set()
    for (_, last), way in zip(search.nodes, search.ways):
        for step, _ in way:
            if last != NONE and is_telling(step):
                found.add((last, step[2]))
    return sorted(found)


def renamed(house, names):
    """Give the house with other names of its cells."""
    if not isinstance(names, dict) or len(names) != len(house.cells):
        raise BadHouse("cells")
    if not all([cell.name in names for cell in house.cells]):
        raise BadHouse("cells")
    cells = []
    for cell in house.cells:
        cells.append(Cell(names[cell.name], cell.kind, cell.size, cell.start, owner=cell.owner))
    writer = with_block(house.writer, block_renamed(house.writer.block, names))
    reader = with_block(house.reader, block_renamed(house.reader.block, names))
    return House(cells, writer, reader, size=house.size, start=house.start)


def is_telling(step):
    """True for the end of a round of the reader."""
    return step[0] == "reader" and step[1] == "end"


def next_nodes(house, node):
    """Give each step from a pair of a state and the value told last, with the pair behind it."""
    state, last = node
    return [(step, (behind, step[2] if is_telling(step) else last)) for step, behind in moves(house, state)]


def block_renamed(block, names):
    """Give the block with other names of the cells."""
    return [statement_renamed(statement, names) for statement in block]


def statement_renamed(statement, names):
    """Give the statement, and all that stands in it, with other names of the cells."""
    items = [statement[0]]
    for part, item in zip(PARTS[statement[0]], statement[1:]):
        if part == "cell":
            items.append(names[item])
        elif part == "block":
            items.append(block_renamed(item, names))
        else:
            items.append(item)
    return items
