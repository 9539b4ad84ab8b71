"""The texts of houses, written and read."""

from cellsatonce.cells import Cell
from cellsatonce.errors import BadCell, BadHouse, BadProgram, BadText
from cellsatonce.forms import KINDS, SIDES, is_name, is_row
from cellsatonce.houses import House
from cellsatonce.programs import PARTS, Program, blocks_of

# What stands behind the first word of a line.
LINES = {
    "house": ("digit", "digit"),
    "cell": ("name", "kind", "digit", "digit", "owner"),
    "writer": (),
    "reader": (),
    "local": ("name", "digit", "digit"),
    "write": ("name", "term"),
    "get": ("name", "name"),
    "set": ("name", "term"),
    "if": ("name", "term"),
    "else": (),
    "while": ("name", "term"),
    "return": ("term",),
}
# The first words of the lines that are not indented; all others are.
HEADS = ("house", "cell", "writer", "reader")
INDENTS = (2, 4, 6, 8)
INDENT = 2


def house_text(house):
    """Give the text of a house."""
    lines = [f"house {house.size} {house.start}"]
    for cell in house.cells:
        lines.append(f"cell {cell.name} {cell.kind} {cell.size} {cell.start} {cell.owner}")
    for program in (house.writer, house.reader):
        lines.append(program.side)
        for name, size, start in program.store:
            lines.append(f"  local {name} {size} {start}")
        lines.extend(block_lines(program.block, INDENT))
    return "\n".join(lines)


def read_house(text):
    """Give the house whose text this is."""
    if not isinstance(text, str):
        raise BadText(0)
    rows = [row_of(line) for line in text.split("\n")]
    for index, row in enumerate(rows):
        if row is None:
            raise BadText(index + 1)
    try:
        house = house_of(rows)
    except (BadCell, BadHouse, BadProgram):
        raise BadText(-1) from None
    # What the rows have too many, or in another order, is not in the text of what they tell of.
    if house is None or house_text(house) != text:
        raise BadText(-1)
    return house


def block_lines(block, indent):
    """Give the lines of a block."""
    lines = []
    for statement in block:
        words = [statement[0]]
        for part, item in zip(PARTS[statement[0]], statement[1:]):
            if part != "block":
                words.append(term_text(item))
        lines.append(" " * indent + " ".join(words))
        for at, inner in enumerate(blocks_of(statement)):
            if at == 1 and len(inner) > 0:
                lines.append(" " * indent + "else")
            lines.extend(block_lines(inner, indent + INDENT))
    return lines


def term_text(term):
    """Give the text of a term or of a name."""
    if is_row(term):
        return f"{term[1]}+{term[2]}"
    return str(term)


def row_of(line):
    """Give (indent, words) for a line, or None if it has no form."""
    rest = line.lstrip(" ")
    indent = len(line) - len(rest)
    words = rest.split(" ")
    if words[0] not in LINES or len(words) != 1 + len(LINES[words[0]]):
        return None
    wanted = (0,) if words[0] in HEADS else INDENTS
    if indent not in wanted:
        return None
    if not all([has_form(part, word) for part, word in zip(LINES[words[0]], words[1:])]):
        return None
    return (indent, words)


def has_form(part, word):
    """True if the word can stand in a line as this part of it."""
    if part == "digit":
        return is_digit(word)
    if part == "name":
        return is_name(word)
    if part == "kind":
        return word in KINDS
    if part == "owner":
        return word in SIDES
    name, plus, number = word.partition("+")
    if plus == "":
        return is_name(word) or is_digit(word)
    return is_name(name) and is_digit(number)


def is_digit(word):
    """True for one digit from 0 to 9."""
    return len(word) == 1 and "0" <= word <= "9"


def house_of(rows):
    """Give the house that the rows tell of, whatever else stands in them, or None for no house."""
    heads = [at for at, (indent, _) in enumerate(rows) if indent == 0]
    words = [rows[at][1] for at in heads]
    between = ["cell" for _ in heads[3:]]
    if [row[0] for row in words] != ["house"] + between + ["writer", "reader"]:
        return None
    cells = [cell_of(row) for row in words[1:-2]]
    writer = program_of("writer", rows[heads[-2] + 1:heads[-1]])
    reader = program_of("reader", rows[heads[-1] + 1:])
    _, size, start = words[0]
    return House(cells, writer, reader, size=int(size), start=int(start))


def cell_of(words):
    """Give the cell of a line."""
    _, name, kind, size, start, owner = words
    return Cell(name, kind, int(size), int(start), owner=owner)


def program_of(side, rows):
    """Give the program of these rows."""
    store = {}
    for _, words in rows:
        if words[0] == "local":
            _, name, size, start = words
            store[name] = (int(size), int(start))
    block, _ = block_of(rows, len(store), INDENT)
    return Program(side, store, block)


def block_of(rows, at, indent):
    """Give the block that begins at this row, and the index of the first row behind it."""
    block = []
    while at < len(rows) and rows[at][0] == indent:
        words = rows[at][1]
        statement = [words[0]] + [term_of(word) for word in words[1:]]
        at += 1
        if words[0] in ("if", "while"):
            inner, at = block_of(rows, at, indent + INDENT)
            statement.append(inner)
        if words[0] == "if":
            inner = []
            if at < len(rows) and rows[at] == (indent, ["else"]):
                inner, at = block_of(rows, at + 1, indent + INDENT)
            statement.append(inner)
        block.append(statement)
    return block, at


def term_of(word):
    """Give the term of a word; that of a name is the name."""
    name, plus, number = word.partition("+")
    if plus != "":
        return ("plus", name, int(number))
    return int(word) if is_digit(word) else word
