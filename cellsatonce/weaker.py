"""The weakest kinds of cells that are enough for a promise."""

from cellsatonce.cells import RANKS
from cellsatonce.errors import BadLot, BadStep, NoPromise, NotLeast
from cellsatonce.forms import KINDS, MOST_REACHED, check_limit, check_promise, is_row
from cellsatonce.kept import breaking, closed_fault, keeps
from cellsatonce.runs import run
from cellsatonce.standings import explored, first_watch, watch_behind


def weaker_lots(house, promise, *, limit=MOST_REACHED):
    """Give the weakest lots of the house that keep the promise."""
    check_promise(promise)
    check_limit(limit)
    if not keeps(house, promise, limit):
        raise NoPromise()
    enough = [lot for lot in lots_of(house) if keeps(house.with_kinds(lot), promise, limit)]
    return [lot for lot in enough if not any([is_below(other, lot) for other in enough])]


def lot_paper(house, promise, lot, *, limit=MOST_REACHED):
    """Give what shows that a lot keeps the promise, and that no weaker one does."""
    check_promise(promise)
    check_lot(house, lot)
    check_limit(limit)
    search = explored(house.with_kinds(lot), promise, limit)
    if search.shortest_break() is not None:
        raise NoPromise()
    runs = []
    for index in lowerable(lot):
        steps = breaking(lowered(house, lot, index), promise, limit=limit)
        if steps is None:
            raise NotLeast(index)
        runs.append((index, steps))
    return (sorted(search.nodes), runs)


def paper_fault(house, promise, lot, paper):
    """Give the first thing that is wrong with the paper of a lot, or None."""
    check_promise(promise)
    check_lot(house, lot)
    standings, runs = paper
    wrong = closed_fault(house.with_kinds(lot), promise, standings)
    if wrong is not None:
        return ("kept", wrong)
    if [index for index, _ in runs] != lowerable(lot):
        return ("runs",)
    for index, steps in runs:
        if not breaks_at_end(lowered(house, lot, index), promise, steps):
            return ("run", index)
    return None


def lots_of(house):
    """Give all lots of the house, ascending by ranks."""
    lots = [()]
    for cell in house.cells:
        kinds = KINDS[:cell.rank + 1]
        lots = [lot + (kind,) for lot in lots for kind in kinds]
    return lots


def check_lot(house, lot):
    """Raise BadLot if this is not a lot of the house."""
    if not is_row(lot) or len(lot) != len(house.cells):
        raise BadLot()
    if not all([kind in KINDS[:cell.rank + 1] for cell, kind in zip(house.cells, lot)]):
        raise BadLot()


def is_below(lot, other):
    """True if a lot is at or below another one, and not the same."""
    return lot != other and all([RANKS[low] <= RANKS[high] for low, high in zip(lot, other)])


def lowerable(lot):
    """Give the indexes of the cells that can be weaker still."""
    return [index for index, kind in enumerate(lot) if kind != "safe"]


def lowered(house, lot, index):
    """Give the house with a lot in which the cell of this index is weaker by one rank."""
    kinds = list(lot)
    kinds[index] = KINDS[RANKS[kinds[index]] - 1]
    return house.with_kinds(kinds)


def breaks_at_end(house, promise, steps):
    """True if these are the steps of a run whose last step breaks the promise, and no other."""
    try:
        made = run(house, steps).steps
    except BadStep:
        return False
    watch = first_watch(promise, house.start)
    for step in made:
        if watch is None:
            return False
        watch = watch_behind(promise, watch, step)
    return watch is None
