"""Houses for the tests: a few by name, and many at random, always the same ones."""

import itertools

from cellsatonce.cells import Cell
from cellsatonce.errors import BadProgram
from cellsatonce.houses import House
from cellsatonce.programs import Program

KINDS = ["safe", "regular", "atomic"]
PROMISES = ["safe", "regular", "atomic"]
NAMES = ["a", "b", "c", "d"]


def bit(kind="regular", size=2, start=0):
    """One cell that is written and read as it is."""
    writer = Program("writer", {}, [("write", "a", "new")])
    reader = Program("reader", {"x": (size, 0)}, [("get", "x", "a"), ("return", "x")])
    return House([Cell("a", kind, size, start)], writer, reader, size=size, start=start)


def empty(size=2, start=0):
    """No cell and no statement."""
    return House([], Program("writer", {}, []), Program("reader", {}, []), size=size, start=start)


def read_alone(store, block, *, cells=(), size=2):
    """A house whose writer does nothing."""
    return House(cells, Program("writer", {}, []), Program("reader", store, block), size=size)


def write_alone(store, block, *, cells=(), size=2):
    """A house whose reader does nothing."""
    return House(cells, Program("writer", store, block), Program("reader", {}, []), size=size)


def lots(house):
    """All rows of kinds that are at or below those of the house."""
    return list(itertools.product(*[KINDS[:cell.rank + 1] for cell in house.cells]))


def random_cell(source, name):
    size = source.choice([2, 2, 3, 4])
    owner = source.choice(["writer", "writer", "reader"])
    return Cell(name, source.choice(KINDS), size, source.randrange(size), owner=owner)


def random_term(source, side, names):
    terms = [source.randint(0, 3)]
    terms.extend(["new"] if side == "writer" else [])
    for name in names:
        terms.extend([name, ("plus", name, source.randint(0, 3))])
    return source.choice(terms)


def random_statement(source, side, names, cells, depth):
    own = [cell.name for cell in cells if cell.owner == side]
    words = (["write"] * 3 if own else []) + (["return"] if side == "reader" else [])
    if names:
        words += ["set"] + (["if", "while"] if depth <= 2 else []) + (["get"] * 4 if cells else [])
    word = source.choice(words or ["nothing"])
    term = random_term(source, side, names)
    if word == "nothing":
        return None
    if word == "write":
        return (word, source.choice(own), term)
    if word == "return":
        return (word, term)
    local = source.choice(names)
    if word == "get":
        return (word, local, source.choice(cells).name)
    if word == "set":
        return (word, local, term)
    blocks = [random_block(source, side, names, cells, depth + 1) for _ in range(2)]
    return (word, local, term) + tuple(blocks[:1] if word == "while" else blocks)


def random_block(source, side, names, cells, depth):
    block = [random_statement(source, side, names, cells, depth) for _ in range(source.randint(0, 4 - depth))]
    return [statement for statement in block if statement is not None]


def random_program(source, side, cells, least):
    while True:
        names = source.sample(["x", "y", "z"], source.choice([0, 1, 2, 2]))
        sizes = [source.choice([2, 2, 3, 4]) for _ in names]
        store = {name: (size, source.randrange(size)) for name, size in zip(names, sizes)}
        try:
            program = Program(side, store, random_block(source, side, names, cells, 0))
        except BadProgram:
            continue
        if program.count >= least:
            return program


def random_house(source, *, most_cells=3, least=0):
    """A house with at most so many cells, and at least so many statements in each program."""
    cells = [random_cell(source, name) for name in NAMES[:source.randint(0, most_cells)]]
    size = source.choice([2, 2, 3, 4])
    writer = random_program(source, "writer", cells, least)
    reader = random_program(source, "reader", cells, least)
    return House(cells, writer, reader, size=size, start=source.randrange(size))
