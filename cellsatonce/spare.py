"""The statements that a house can do without."""

from cellsatonce.errors import BadProgram, NoPromise, TooMany
from cellsatonce.forms import MOST_REACHED, SIDES, check_limit, check_promise
from cellsatonce.kept import keeps
from cellsatonce.programs import block_without, with_block

MOST_PARTED = 8


def spare_statements(house, promise, *, limit=MOST_REACHED):
    """Give the side and the place of each statement that can be left out alone."""
    check_promise(promise)
    check_limit(limit)
    if not keeps(house, promise, limit):
        raise NoPromise()
    found = []
    for side in SIDES:
        for place in range(program_of(house, side).count):
            rest = rest_without(house, side, place)
            if rest is not None and keeps(rest, promise, limit):
                found.append((side, place))
    return found


def least_programs(house, promise, *, limit=MOST_REACHED):
    """Give the least choices of statements that are enough for the promise."""
    check_promise(promise)
    check_limit(limit)
    if house.writer.count + house.reader.count > MOST_PARTED:
        raise TooMany(MOST_PARTED)
    if not keeps(house, promise, limit):
        raise NoPromise()
    enough = []
    writers = parts_of(house.writer)
    readers = parts_of(house.reader)
    for writer_kept, writer in writers:
        for reader_kept, reader in readers:
            if keeps(house.with_programs(writer, reader), promise, limit):
                enough.append((writer_kept, reader_kept))
    return sorted([choice for choice in enough if not any([is_within(other, choice) for other in enough])])


def program_of(house, side):
    """Give the program of a side."""
    return house.writer if side == "writer" else house.reader


def rest_without(house, side, place):
    """Give the house without this statement, or None if the rest is no program."""
    try:
        rest = program_of(house, side).without(place)
    except BadProgram:
        return None
    if side == "writer":
        return house.with_programs(rest, house.reader)
    return house.with_programs(house.writer, rest)


def parts_of(program):
    """Give (places, program) for all that can be kept of a program so that it is one."""
    found = []
    for places in places_kept(program):
        part = part_of(program, places)
        if part is not None:
            found.append((places, part))
    return found


def places_kept(program):
    """Give all tuples of places with, for each of them, those of all statements around it."""
    around = []
    rows = [()]
    for place, depth, _ in program.walk():
        # The statements around this one are the last ones of each depth below its own.
        around = around[:depth] + [place]
        within = around[:depth]
        further = [row + (place,) for row in rows if all([outer in row for outer in within])]
        rows = rows + further
    return rows


def part_of(program, places):
    """Give the program with just these statements, or None if that is none."""
    block = program.block
    # From the last place on, since the places behind one that is left out become others.
    for place in reversed(range(program.count)):
        if place not in places:
            block = block_without(block, 0, place)
    try:
        return with_block(program, block)
    except BadProgram:
        return None


def is_within(choice, other):
    """True if all that one choice keeps is kept by another, and they are not the same."""
    if choice == other:
        return False
    return all([place in other[at] for at in (0, 1) for place in choice[at]])
