"""The programs that the writer and the reader follow."""

from cellsatonce.errors import BadProgram
from cellsatonce.forms import SIDES, is_between, is_name, is_row, is_size

MOST_VARIABLES = 4
MOST_STATEMENTS = 16
MOST_AROUND = 2
GREATEST_NUMBER = 3

# What stands behind the word of a statement. The parts of each statement stand in the order in
# which they are checked, so that the first one that does not fit is the reason to be told.
PARTS = {
    "write": ("cell", "term"),
    "get": ("local", "cell"),
    "set": ("local", "term"),
    "if": ("local", "term", "block", "block"),
    "while": ("local", "term", "block"),
    "return": ("term",),
}


class Program:
    """A program of one side, which it follows once for each of its rounds."""

    def __init__(self, side, store, block):
        if side not in SIDES:
            raise BadProgram(-1, "side")
        if not is_store(store):
            raise BadProgram(-1, "store")
        if not is_row(block):
            raise BadProgram(-1, "block")
        count = check_statements(block, 0, 0, side, list(store))
        check_ways(block, 0)
        self.side = side
        self.store = tuple([(name, store[name][0], store[name][1]) for name in sorted(store)])
        self.block = copied_block(block)
        self.count = count

    def __eq__(self, other):
        return (isinstance(other, Program) and self.side == other.side
                and self.store == other.store and self.block == other.block)

    def walk(self):
        """Give (place, depth, statement) for each statement, in the order of the places."""
        for triple in placed(self.block, 0, 0):
            yield triple

    def without(self, place):
        """Give the program without the statement of this place and all that stands in its blocks."""
        return with_block(self, block_without(self.block, 0, place))


def with_block(program, block):
    """Give a program of the same side and with the same variables, but with another block."""
    store = {name: (size, start) for name, size, start in program.store}
    return Program(program.side, store, block)


def is_store(store):
    """True for the local variables of a program."""
    if not isinstance(store, dict) or len(store) > MOST_VARIABLES:
        return False
    return all([is_variable(name, room) for name, room in store.items()])


def is_variable(name, room):
    """True for the name of a local variable with its size and its start."""
    if not is_name(name) or name == "new" or not is_row(room) or len(room) != 2:
        return False
    return is_size(room[0]) and is_between(room[1], 0, room[0] - 1)


def is_statement(statement):
    """True for a row that begins with one of the words and has as many items as it asks for."""
    if not is_row(statement) or len(statement) == 0 or not isinstance(statement[0], str):
        return False
    return statement[0] in PARTS and len(statement) == 1 + len(PARTS[statement[0]])


def is_term(term, side, names):
    """True for a term in a program of this side, with local variables of these names."""
    if is_row(term):
        if len(term) != 3 or term[0] != "plus" or term[1] not in names:
            return False
        return is_between(term[2], 0, GREATEST_NUMBER)
    if term == "new":
        return side == "writer"
    return term in names or is_between(term, 0, GREATEST_NUMBER)


def fits(part, item, side, names):
    """True if the item can stand in a statement as this part of it."""
    if part == "local":
        return item in names
    if part == "cell":
        return is_name(item)
    if part == "term":
        return is_term(item, side, names)
    return is_row(item)


def wrong_form(statement, place, depth, side, names):
    """Give the first reason to refuse the statement by its form, or None."""
    if place == MOST_STATEMENTS:
        return "many"
    if not is_statement(statement):
        return "statement"
    if statement[0] == "return" and side == "writer":
        return "side"
    for part, item in zip(PARTS[statement[0]], statement[1:]):
        if not fits(part, item, side, names):
            return part
    if statement[0] in ("if", "while") and depth > MOST_AROUND:
        return "deep"
    return None


def check_statements(block, place, depth, side, names):
    """Raise BadProgram for the first statement of a wrong form; give the place behind the block."""
    for statement in block:
        why = wrong_form(statement, place, depth, side, names)
        if why is not None:
            raise BadProgram(place, why)
        place += 1
        for inner in blocks_of(statement):
            place = check_statements(inner, place, depth + 1, side, names)
    return place


def check_ways(block, place):
    """Raise BadProgram for the first dead or idle statement; give the place behind the block."""
    ended = False
    for statement in block:
        if ended:
            raise BadProgram(place, "dead")
        if statement[0] == "while" and has_bare_way(statement[3]):
            raise BadProgram(place, "idle")
        ended = ends_round(statement)
        place += 1
        for inner in blocks_of(statement):
            place = check_ways(inner, place)
    return place


def ends_round(statement):
    """True if the round never goes on behind this statement, by its form."""
    if statement[0] == "if":
        return all([len(block) > 0 and ends_round(block[-1]) for block in blocks_of(statement)])
    return statement[0] == "return"


def has_bare_way(block):
    """True if the form of the block has a way through it without a get, a write and a return."""
    return all([is_bare(statement) for statement in block])


def is_bare(statement):
    """True if the form of the statement has such a way."""
    if statement[0] == "if":
        return has_bare_way(statement[3]) or has_bare_way(statement[4])
    return statement[0] in ("set", "while")


def blocks_of(statement):
    """Give the blocks that stand in a statement."""
    return statement[3:]


def copied_block(block):
    """Give the block with all rows as tuples."""
    return tuple([copied_statement(statement) for statement in block])


def copied_statement(statement):
    """Give the statement with all rows as tuples."""
    items = [statement[0]]
    for part, item in zip(PARTS[statement[0]], statement[1:]):
        if part == "block":
            items.append(copied_block(item))
        else:
            items.append(tuple(item) if is_row(item) else item)
    return tuple(items)


def placed(block, place, depth):
    """Give (place, depth, statement) for all that stands in a block that begins at this place."""
    triples = []
    for statement in block:
        triples.append((place, depth, statement))
        place += 1
        for inner in blocks_of(statement):
            within = placed(inner, place, depth + 1)
            triples.extend(within)
            place += len(within)
    return triples


def block_without(block, at, place):
    """Give the block, which begins at one place, without the statement of another."""
    kept = []
    for statement in block:
        if at != place:
            kept.append(statement_without(statement, at, place))
        at += len(placed([statement], at, 0))
    return kept


def statement_without(statement, at, place):
    """Give the statement, which stands at one place, without the statement of another in it."""
    items = list(statement[:3])
    at += 1
    for inner in blocks_of(statement):
        items.append(block_without(inner, at, place))
        at += len(placed(inner, at, 0))
    return items
