"""Which promises a house keeps, and what shows it."""

from cellsatonce.forms import KINDS, MOST_REACHED, check_limit, check_promise
from cellsatonce.searches import Search
from cellsatonce.standings import explored, first_standing, first_watch, next_standings, watch_behind
from cellsatonce.steps import initial, moves


def breaking(house, promise, *, limit=MOST_REACHED):
    """Give the first of the shortest runs that break the promise, or None."""
    check_promise(promise)
    check_limit(limit)
    return explored(house, promise, limit).shortest_break()


def strongest(house, *, limit=MOST_REACHED):
    """Give the strongest promise that the house keeps, or "none"."""
    check_limit(limit)
    for promise in reversed(KINDS):
        if keeps(house, promise, limit):
            return promise
    return "none"


def closed(house, promise, *, limit=MOST_REACHED):
    """Give all reached standings."""
    check_promise(promise)
    check_limit(limit)
    return sorted(explored(house, promise, limit).nodes)


def closed_fault(house, promise, standings):
    """Give what keeps these standings from showing that the house keeps the promise, or None."""
    check_promise(promise)
    known = set(standings)
    if first_standing(house, promise) not in known:
        return ("first",)
    for index, standing in enumerate(standings):
        for step, behind in next_standings(house, promise, standing):
            if behind is None:
                return ("breaks", index, step)
            if behind not in known:
                return ("lacks", index, step)
    return None


def inversion(house, *, limit=MOST_REACHED):
    """Give the first of the shortest runs whose end breaks "atomic" but not "regular", or None."""
    check_limit(limit)
    first = (initial(house), first_watch("atomic", house.start), first_watch("regular", house.start))
    return Search(first, lambda triple: next_triples(house, triple), limit).shortest_break()


def next_triples(house, triple):
    """Give each step that keeps "regular" with the triple behind it, or with None for an inversion."""
    state, atomic, regular = triple
    pairs = []
    for step, behind in moves(house, state):
        after = watch_behind("regular", regular, step)
        if after is None:
            continue
        above = watch_behind("atomic", atomic, step)
        pairs.append((step, None if above is None else (behind, above, after)))
    return pairs


def keeps(house, promise, limit):
    """True if the house keeps the promise."""
    return explored(house, promise, limit).shortest_break() is None
