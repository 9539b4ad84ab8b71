"""Houses for the tests: a few by name, and many at random, always the same ones."""

import itertools

from cellsatonce.cells import Cell
from cellsatonce.errors import BadProgram
from cellsatonce.houses import House
from cellsatonce.programs import Program

KINDS = ["safe", "regular", "atomic"]
PROMISES = ["safe", "regular", "atomic"]
NAMES = ["a", "b", "c", "d"]


def bit(kind="regular", size=2, start=0):
    """One cell that is written and read as it is."""
    writer = Program("writer", {}, [("write", "a", "new")])
    reader = Program("reader", {"x": (size, 0)}, [("get", "x", "a"), ("return", "x")])
    return House([Cell("a", kind, size, start)], writer, reader, size=size, start=start)


def empty(size=2, start=0):
    """No cell and no statement."""
    return House([], Program("writer", {}, []), Program("reader", {}, []), size=size, start=start)


def read_alone(store, block, *, cells=(), size=2):
    """A house whose writer does nothing."""
    return House(cells, Program("writer", {}, []), Program("reader", store, block), size=size)


def write_alone(store, block, *, cells=(), size=2):
    """A house whose reader does nothing."""
    return House(cells, Program("writer", store, block), Program("reader", {}, []), size=size)


def big():
    """A house with more than 3000 standings."""
    writer = Program("writer", {}, [("write", "a", "new"), ("write", "b", "new")])
    reader = Program("reader", {"x": (4, 0), "y": (4, 0)}, [("get", "x", "a"), ("get", "y", "b"), ("return", "x")])
    return House([Cell("a", "regular", 4), Cell("b", "regular", 4)], writer, reader, size=4)


def careful(kind="regular", start=0):
    """A bit that is written only if its value changes, so that a safe cell is as good as a regular one."""
    writer = Program("writer", {"x": (2, start)}, [
        ("if", "x", "new", [], [("write", "a", "new"), ("set", "x", "new")]),
    ])
    reader = Program("reader", {"y": (2, 0)}, [("get", "y", "a"), ("return", "y")])
    return House([Cell("a", kind, 2, start)], writer, reader, start=start)


def endless(kind="regular"):
    """A reader that waits for ever for a cell that nobody writes."""
    block = [("while", "x", 0, [("get", "x", "a")]), ("return", 1)]
    return House([Cell("a", kind, 2)], Program("writer", {}, []), Program("reader", {"x": (2, 0)}, block))


def scanned(kind="regular", careful_writer=False):
    """Three values in two bits: the value is the number of the first bit that is 1, or else 2.

    A writer sets the bit of the value and then clears those below; a careful one writes no bit
    that has the value already.
    """
    def write(name, value):
        statement = ("write", name, value)
        local = {"a": "x", "b": "y"}[name]
        return ("if", local, value, [], [statement, ("set", local, value)]) if careful_writer else statement

    store = {"v": (3, 0), "x": (2, 1), "y": (2, 0)} if careful_writer else {"v": (3, 0)}
    writer = Program("writer", store, [
        ("set", "v", "new"),
        ("if", "v", 0, [write("a", 1)], [("if", "v", 1, [write("b", 1)], [write("b", 0)]), write("a", 0)]),
    ])
    reader = Program("reader", {"z": (2, 0)}, [
        ("get", "z", "a"), ("if", "z", 1, [("return", 0)], []),
        ("get", "z", "b"), ("if", "z", 1, [("return", 1)], []), ("return", 2),
    ])
    return House([Cell("a", kind, 2, 1), Cell("b", kind, 2)], writer, reader, size=3)


def two_bits(low="regular", high="regular"):
    """The reader tells the cell b; the writer writes a and the reader reads it for nothing."""
    writer = Program("writer", {}, [("write", "a", 0), ("write", "b", "new")])
    reader = Program("reader", {"x": (2, 0)}, [("get", "x", "a"), ("get", "x", "b"), ("return", "x")])
    return House([Cell("a", low, 2), Cell("b", high, 2)], writer, reader)


def either(*kinds):
    """A writer that goes wrong only if it gets 1 from both cells of the reader, which are 0 for ever."""
    names = zip("acd", kinds, ["writer", "reader", "reader"])
    cells = [Cell(name, kind, 2, owner=owner) for name, kind, owner in names]
    right = [("write", "a", "new")]
    writer = Program("writer", {"x": (2, 0), "y": (2, 0)}, [
        ("get", "x", "c"),
        ("if", "x", 1, [("get", "y", "d"), ("if", "y", 1, [("write", "a", 0)], right)], right),
        ("set", "x", 0), ("set", "y", 0),
    ])
    block = [("write", "c", 0), ("write", "d", 0), ("get", "z", "a"), ("return", "z")]
    return House(cells, writer, Program("reader", {"z": (2, 0)}, block))


def lots(house):
    """All rows of kinds that are at or below those of the house."""
    return list(itertools.product(*[KINDS[:cell.rank + 1] for cell in house.cells]))


def random_cell(source, name):
    size = source.choice([2, 2, 3, 4])
    owner = source.choice(["writer", "writer", "reader"])
    return Cell(name, source.choice(KINDS), size, source.randrange(size), owner=owner)


def random_term(source, side, names):
    terms = [source.randint(0, 3)]
    terms.extend(["new"] if side == "writer" else [])
    for name in names:
        terms.extend([name, ("plus", name, source.randint(0, 3))])
    return source.choice(terms)


def random_statement(source, side, names, cells, depth):
    own = [cell.name for cell in cells if cell.owner == side]
    words = (["write"] * 3 if own else []) + (["return"] if side == "reader" else [])
    if names:
        words += ["set"] + (["if", "while"] if depth <= 2 else []) + (["get"] * 4 if cells else [])
    word = source.choice(words or ["nothing"])
    term = random_term(source, side, names)
    if word == "nothing":
        return None
    if word == "write":
        return (word, source.choice(own), term)
    if word == "return":
        return (word, term)
    local = source.choice(names)
    if word == "get":
        return (word, local, source.choice(cells).name)
    if word == "set":
        return (word, local, term)
    blocks = [random_block(source, side, names, cells, depth + 1) for _ in range(2)]
    return (word, local, term) + tuple(blocks[:1] if word == "while" else blocks)


def random_block(source, side, names, cells, depth):
    block = [random_statement(source, side, names, cells, depth) for _ in range(source.randint(0, 4 - depth))]
    return [statement for statement in block if statement is not None]


def random_program(source, side, cells, least):
    while True:
        names = source.sample(["x", "y", "z"], source.choice([0, 1, 2, 2]))
        sizes = [source.choice([2, 2, 3, 4]) for _ in names]
        store = {name: (size, source.randrange(size)) for name, size in zip(names, sizes)}
        try:
            program = Program(side, store, random_block(source, side, names, cells, 0))
        except BadProgram:
            continue
        if program.count >= least:
            return program


def random_house(source, *, most_cells=3, least=0):
    """A house with at most so many cells, and at least so many statements in each program."""
    cells = [random_cell(source, name) for name in NAMES[:source.randint(0, most_cells)]]
    size = source.choice([2, 2, 3, 4])
    writer = random_program(source, "writer", cells, least)
    reader = random_program(source, "reader", cells, least)
    return House(cells, writer, reader, size=size, start=source.randrange(size))


def with_more(source, house, program):
    """The program with a random statement more, or as it is where that is no program."""
    names = [name for name, _, _ in program.store]
    statement = random_statement(source, program.side, names, house.cells, 2)
    block = list(program.block)
    block.insert(source.randint(0, len(block)), statement)
    store = {name: (size, start) for name, size, start in program.store}
    try:
        return Program(program.side, store, block)
    except BadProgram:
        return program


def near_house(source):
    """A house that is one of those by name but for a few statements more, and so keeps more than most."""
    kinds = [source.choice(KINDS) for _ in range(3)]
    house = source.choice([bit(kinds[0]), careful(kinds[0]), bit(kinds[0], 3), two_bits(*kinds[:2]), endless(kinds[0])])
    for _ in range(source.randint(1, 3)):
        writer, reader = house.writer, house.reader
        if source.choice([True, False]):
            writer = with_more(source, house, writer)
        else:
            reader = with_more(source, house, reader)
        house = house.with_programs(writer, reader)
    return house
