"""The longest rounds, and the rounds without an end."""

from cellsatonce.errors import BadSetting
from cellsatonce.forms import MOST_REACHED, check_limit, check_side
from cellsatonce.searches import Search, knots
from cellsatonce.steps import initial, moves


def states(house, *, limit=MOST_REACHED):
    """Give all reached states."""
    check_limit(limit)
    return sorted(wandered(house, limit).nodes)


def longest(house, side, *, limit=MOST_REACHED):
    """Give the greatest number of own steps of a round of the side, or None if there is none."""
    check_side(side)
    check_limit(limit)
    ways = round_ways(wandered(house, limit), side, False)
    numbers = knots(ways)
    # By the number of the knot that a round has come to.
    most = [0 for _ in ways]
    for number, at in sorted([(number, at) for at, number in enumerate(numbers)]):
        for step, index in ways[at]:
            own = 1 if step[0] == side else 0
            behind = numbers[index]
            if behind > number:
                most[behind] = max(most[behind], most[number] + own)
            elif own == 1:
                return None
    return max(most)


def waits(house, side, *, alone=False, limit=MOST_REACHED):
    """Give a run and a turn behind it that a round of the side can take for ever, or None."""
    check_side(side)
    if alone is not True and alone is not False:
        raise BadSetting("alone")
    check_limit(limit)
    search = wandered(house, limit)
    ways = round_ways(search, side, alone)
    numbers = knots(ways)
    for at, way in enumerate(ways):
        for step, index in way:
            if step[0] == side and numbers[index] == numbers[at]:
                return (search.path(at), [step] + shortest(ways, index, at))
    return None


def wandered(house, limit):
    """Give the search for all reached states; raise TooMany if they are more than the limit."""
    return Search(initial(house), lambda state: moves(house, state), limit)


def round_ways(search, side, alone):
    """Give the ways of a search without those that begin or end a round of the side.

    If the side is alone, the ways of the other side are left out too.
    """
    return [[pair for pair in way if stays(pair[0], side, alone)] for way in search.ways]


def stays(step, side, alone):
    """True for an own step of a round of the side, and for one of the other side if not alone."""
    if step[0] == side:
        return step[1] not in ("begin", "end")
    return not alone


def shortest(ways, origin, goal):
    """Give the steps on the shortest way from one node to another that it leads to."""
    search = Search(origin, lambda at: ways[at], len(ways))
    return search.path(search.nodes.index(goal))
