"""The states of a house, and the steps from one to the next."""

from cellsatonce.forms import NONE, SIDES
from cellsatonce.plans import END, gone_on, replaced, stored, worth_of

# The phases of a side.
REST = 0
READY = 1
MIDST = 2
DONE = 3


def initial(house):
    """Give the first state of a house."""
    sides = [(REST, END, starts_of(program), NONE) for program in (house.writer, house.reader)]
    return (sides[0], sides[1], tuple([(cell.start, NONE, ()) for cell in house.cells]))


def moves(house, state):
    """Give all possible steps in a state, each with the state behind it."""
    return side_moves(house, state, "writer") + side_moves(house, state, "reader")


def event_of(step):
    """Give the event of the made cell that a step is, or None."""
    side, word, value = step
    if word == "begin":
        return ("write", value) if side == "writer" else ("read",)
    if word == "end":
        return ("wrote",) if side == "writer" else ("told", value)
    return None


def starts_of(program):
    """Give the values of the local variables at first."""
    return tuple([variable[2] for variable in program.store])


def own_part(state, side):
    """Give the part of a state that is the side's own."""
    return state[SIDES.index(side)]


def side_moves(house, state, side):
    """Give the moves of one side."""
    phase = own_part(state, side)[0]
    if phase == REST:
        return begin_moves(house, state, side)
    if phase == READY:
        return ready_moves(house, state, side)
    if phase == MIDST:
        return finish_moves(house, state, side)
    return [end_move(state, side)]


def move(state, side, word, value, own, cells):
    """Give a step of a side with the state behind it."""
    if side == "writer":
        return ((side, word, value), (own, state[1], cells))
    return ((side, word, value), (state[0], own, cells))


def begin_moves(house, state, side):
    """Give the moves of a side at rest: a round begins."""
    values = own_part(state, side)[2]
    place = 0 if len(house.plans[side]) > 0 else END
    news = list(range(house.size)) if side == "writer" else [NONE]
    found = []
    for new in news:
        own = own_on(house, side, place, values, new)
        found.append(move(state, side, "begin", new, own, state[2]))
    return found


def ready_moves(house, state, side):
    """Give the move of a side that is ready for a get or a write."""
    row = row_under_way(house, state, side)
    cell = house.cells[row["cell"]]
    if cell.kind == "atomic":
        return [once_move(house, state, side, row)]
    own = own_part(state, side)
    triple = state[2][row["cell"]]
    if row["word"] == "write":
        triple = write_started(cell, triple, written(row, own))
    elif side != cell.owner:
        triple = get_started(cell, triple)
    cells = replaced(state[2], row["cell"], triple)
    return [move(state, side, "start", NONE, (MIDST,) + own[1:], cells)]


def once_move(house, state, side, row):
    """Give the move that is the whole get or write of an atomic cell."""
    if row["word"] == "get":
        value = state[2][row["cell"]][0]
        return move(state, side, "once", value, own_behind(house, state, side, row, value), state[2])
    triple = (written(row, own_part(state, side)), NONE, ())
    own = own_behind(house, state, side, row, NONE)
    return move(state, side, "once", NONE, own, replaced(state[2], row["cell"], triple))


def finish_moves(house, state, side):
    """Give the moves of a side in the midst of a get or a write: it ends."""
    row = row_under_way(house, state, side)
    value, under, seen = state[2][row["cell"]]
    if row["word"] == "write":
        worths = (NONE,)
        triple = (under, NONE, seen)
    elif side == house.cells[row["cell"]].owner:
        worths = (value,)
        triple = (value, under, seen)
    else:
        worths = seen
        triple = (value, under, ())
    cells = replaced(state[2], row["cell"], triple)
    found = []
    for worth in worths:
        own = own_behind(house, state, side, row, worth)
        found.append(move(state, side, "finish", worth, own, cells))
    return found


def end_move(state, side):
    """Give the move of a side that is ready to end its round."""
    values, last = own_part(state, side)[2:]
    told = last if side == "reader" else NONE
    return move(state, side, "end", told, (REST, END, values, NONE), state[2])


def row_under_way(house, state, side):
    """Give the row of the plan for the get or write that the side is at."""
    return house.plans[side][own_part(state, side)[1]]


def written(row, own):
    """Give what a write writes."""
    values, new = own[2:]
    return worth_of(row["term"], values, new) % row["size"]


def own_behind(house, state, side, row, worth):
    """Give the side's own part behind its get or write; worth is what a get tells."""
    values, new = own_part(state, side)[2:]
    if row["word"] == "get":
        values = stored(row, values, worth)
    return own_on(house, side, row["ways"][0], values, new)


def own_on(house, side, place, values, new):
    """Give the side's own part when it goes on from a place."""
    place, values, told = gone_on(house.plans[side], place, values, new)
    phase = DONE if place == END else READY
    return (phase, place, values, told if side == "reader" else new)


def get_started(cell, triple):
    """Give the part of a cell behind the start of a get by the side that does not own it."""
    value, under, _ = triple
    if under == NONE:
        return (value, under, (value,))
    return (value, under, overlapped(cell, (value, under)))


def write_started(cell, triple, worth):
    """Give the part of a cell behind the start of a write."""
    value, _, seen = triple
    if len(seen) > 0:
        seen = overlapped(cell, seen + (worth,))
    return (value, worth, seen)


def overlapped(cell, worths):
    """Give what a get may tell that a write overlaps, where a regular cell leaves it these values."""
    if cell.kind == "safe":
        return tuple(range(cell.size))
    return tuple(sorted(set(worths)))
