"""The standings of a house: its states, each with what a promise needs to know of the past."""

from cellsatonce.forms import MOST_REACHED, NONE, check_limit, check_promise
from cellsatonce.searches import Search
from cellsatonce.steps import event_of, initial, moves

# The modes of "safe": no read is under way, or one that no write overlaps so far, or one that a
# write overlaps.
NO_READ = 0
ALONE = 1
OVERLAPPED = 2
# The modes of "atomic": no read is under way, and the write that the last one was given has ended
# or has not; or a read is under way.
SETTLED = 0
AHEAD = 1
READING = 2


def first_watch(promise, start):
    """Give the watch of the empty history."""
    check_promise(promise)
    if promise == "safe":
        return (start, NONE, NO_READ)
    if promise == "regular":
        return (start, NONE, ())
    return (start, NONE, SETTLED, ())


def next_watch(promise, watch, event):
    """Give the watch behind one more event, or None if the event breaks the promise."""
    check_promise(promise)
    if promise == "safe":
        return next_safe(watch, event)
    if promise == "regular":
        return next_regular(watch, event)
    return next_atomic(watch, event)


def first_standing(house, promise):
    """Give the standing in which every run of the house begins."""
    return (initial(house), first_watch(promise, house.start))


def next_standings(house, promise, standing):
    """Give each possible step with the standing behind it, or with None if it breaks the promise."""
    check_promise(promise)
    state, watch = standing
    pairs = []
    for step, behind in moves(house, state):
        after = watch_behind(promise, watch, step)
        pairs.append((step, None if after is None else (behind, after)))
    return pairs


def reach(house, promise, *, limit=MOST_REACHED):
    """Give the number of reached standings."""
    check_promise(promise)
    check_limit(limit)
    return len(explored(house, promise, limit).nodes)


def explored(house, promise, limit):
    """Give the search for all reached standings; raise TooMany if they are more than the limit."""
    first = first_standing(house, promise)
    return Search(first, lambda standing: next_standings(house, promise, standing), limit)


def watch_behind(promise, watch, step):
    """Give the watch behind a step, or None if the step breaks the promise."""
    event = event_of(step)
    return watch if event is None else next_watch(promise, watch, event)


def joined(values, value):
    """Give the ascending tuple of the values with one more."""
    return tuple(sorted(set(values + (value,))))


def next_safe(watch, event):
    """Give the next watch for "safe"."""
    last, under, mode = watch
    if event[0] == "write":
        return (last, event[1], OVERLAPPED if mode == ALONE else mode)
    if event[0] == "wrote":
        return (under, NONE, mode)
    if event[0] == "read":
        return (last, under, ALONE if under == NONE else OVERLAPPED)
    if mode == ALONE and event[1] != last:
        return None
    return (last, under, NO_READ)


def next_regular(watch, event):
    """Give the next watch for "regular"."""
    last, under, values = watch
    if event[0] == "write":
        # Without a value there is no read that the write could overlap.
        return (last, event[1], joined(values, event[1]) if len(values) > 0 else ())
    if event[0] == "wrote":
        return (under, NONE, values)
    if event[0] == "read":
        return (last, under, (last,) if under == NONE else joined((last,), under))
    if event[1] not in values:
        return None
    return (last, under, ())


def next_atomic(watch, event):
    """Give the next watch for "atomic"."""
    last, under, mode, ended = watch
    if event[0] == "write":
        return (last, event[1], mode, ended)
    if event[0] == "wrote":
        if mode == READING:
            return (under, NONE, mode, joined(ended, under))
        return (under, NONE, SETTLED, ended)
    if event[0] == "read":
        return (last, under, READING, (last,) if mode == SETTLED else ())
    if event[1] in ended:
        return (last, under, SETTLED, ())
    if event[1] == under:
        return (last, under, AHEAD, ())
    return None
