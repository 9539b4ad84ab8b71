"""Plans: the programs of a house, made ready to be followed.

A plan is a list with one row for each place of a program. A row is a dict: "word" is the word of
the statement, and "ways" are the places at which the round goes on behind it (for an "if" its two
blocks, for a "while" its body and what stands behind it). Where the statement has them, "cell" and
"local" are indexes in place of names, "term" is the term as of term_of, and "size" is the size of
what the statement stores into.
"""

from cellsatonce.forms import NONE, is_integer, is_row
from cellsatonce.programs import PARTS, blocks_of, placed

# The place behind the last statement, where the round ends.
END = -1


def plan_of(program, cells, size):
    """Give the plan of a program in a house with these cells and of this size."""
    linked = linked_block(program.block, 0, END)
    return [row_of(statement, ways, program.store, cells, size) for statement, ways in linked]


def linked_block(block, place, behind):
    """Give (statement, ways) for all in a block that begins at one place and is left for another."""
    pairs = []
    for index, statement in enumerate(block):
        after = behind
        if index < len(block) - 1:
            after = place + len(placed([statement], place, 0))
        pairs.extend(linked_statement(statement, place, after))
        place = after
    return pairs


def linked_statement(statement, place, after):
    """Give (statement, ways) for a statement and all that stands in its blocks."""
    # A "while" asks again behind its body.
    behind = place if statement[0] == "while" else after
    ways = []
    inner = []
    for block in blocks_of(statement):
        start = place + 1 + len(inner)
        ways.append(start if len(block) > 0 else behind)
        inner.extend(linked_block(block, start, behind))
    return [(statement, ways + [after])] + inner


def row_of(statement, ways, store, cells, size):
    """Give the row of a statement."""
    row = {"word": statement[0], "ways": ways, "size": size}
    for part, item in zip(PARTS[statement[0]], statement[1:]):
        if part == "local":
            row["local"] = local_index(item, store)
        elif part == "cell":
            row["cell"] = [cell.name for cell in cells].index(item)
        elif part == "term":
            row["term"] = term_of(item, store)
    # A get names a cell too, but what it stores into is the local variable.
    if "local" in row:
        row["size"] = store[row["local"]][1]
    elif "cell" in row:
        row["size"] = cells[row["cell"]].size
    return row


def local_index(name, store):
    """Give the index of a local variable among the values of its side."""
    return [variable[0] for variable in store].index(name)


def term_of(term, store):
    """Give a number or "new" as it is, and any other term as (index of the variable, number, size)."""
    if term == "new" or is_integer(term):
        return term
    name = term
    number = 0
    if is_row(term):
        _, name, number = term
    index = local_index(name, store)
    return (index, number, store[index][1])


def worth_of(term, values, new):
    """Give the value of a term of a plan."""
    if term == "new":
        return new
    if is_integer(term):
        return term
    index, number, size = term
    return (values[index] + number) % size


def replaced(row, index, item):
    """Give the tuple with another item at this index."""
    return row[:index] + (item,) + row[index + 1:]


def stored(row, values, worth):
    """Give the values behind a statement that stores this into a local variable."""
    return replaced(values, row["local"], worth % row["size"])


def gone_on(plan, place, values, new):
    """Go on from a place up to the next get or write or to the end of the round.

    Gives that place or END, the values, and what the round tells if it ends there.
    """
    while place != END:
        row = plan[place]
        if row["word"] in ("get", "write"):
            return place, values, NONE
        worth = worth_of(row["term"], values, new)
        if row["word"] == "return":
            return END, values, worth % row["size"]
        way = 0
        if row["word"] == "set":
            values = stored(row, values, worth)
        elif values[row["local"]] != worth:
            way = 1
        place = row["ways"][way]
    return END, values, 0
