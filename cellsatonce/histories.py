"""Histories of the made cell, and which promises they keep."""

from cellsatonce.errors import BadHistory, BadSetting, NoRead
from cellsatonce.forms import check_promise, is_between, is_row

# A history may have one value more than a house.
LEAST_SIZE = 2
MOST_SIZE = 5
EVENT_LENGTHS = {"write": 2, "wrote": 1, "read": 1, "told": 2}


def checked(history, *, size=2):
    """Give the events of a history as a list of tuples."""
    check_size(size)
    return events_of(history, size)


def may_tell(history, promise, *, size=2, start=0):
    """Give the values that the read under way may tell at the end of the history."""
    check_settings(size, start)
    check_promise(promise)
    values, told, low = gone_through(events_of(history, size), start)
    if low is None:
        raise NoRead()
    if first_fault(values, told, promise, size) is not None:
        return []
    if promise == "atomic":
        low = max([low] + given_numbers(values, told))
    return sorted(set(open_values(values, low, len(values) - 1, promise, size)))


def fault(history, promise, *, size=2, start=0):
    """Give the index of the first told event that breaks the promise, or None."""
    check_settings(size, start)
    check_promise(promise)
    values, told, _ = gone_through(events_of(history, size), start)
    return first_fault(values, told, promise, size)


def earliest(history, *, size=2, start=0):
    """Give, for each told read, the number that "atomic" gives it, or None from the break on."""
    check_settings(size, start)
    values, told, _ = gone_through(events_of(history, size), start)
    return given_numbers(values, told)


def order(history, *, size=2, start=0):
    """Give all writes and told reads in one order, or None if the history breaks "atomic"."""
    check_settings(size, start)
    values, told, _ = gone_through(events_of(history, size), start)
    numbers = given_numbers(values, told)
    if None in numbers:
        return None
    items = []
    for number in range(len(values)):
        # Write 0 is the start, which is no write of the history.
        if number > 0:
            items.append(("write", number))
        items.extend([("read", k) for k, given in enumerate(numbers) if given == number])
    return items


def check_size(size):
    """Raise BadSetting if this is not the size of a made cell."""
    if not is_between(size, LEAST_SIZE, MOST_SIZE):
        raise BadSetting("size")


def check_settings(size, start):
    """Raise BadSetting if one of the two is not as it must be."""
    check_size(size)
    if not is_between(start, 0, size - 1):
        raise BadSetting("start")


def is_event(event, size):
    """True for an event with a value below size, wherever it stands."""
    if not is_row(event) or len(event) == 0 or not isinstance(event[0], str):
        return False
    if len(event) != EVENT_LENGTHS.get(event[0], 0):
        return False
    return len(event) == 1 or is_between(event[1], 0, size - 1)


def can_stand(word, writing, reading):
    """True if an event with this word can stand where a write and a read are under way or not."""
    if word == "write":
        return not writing
    if word == "wrote":
        return writing
    if word == "read":
        return not reading
    return reading


def events_of(history, size):
    """Give the events as tuples; raise BadHistory if this is no history."""
    if not is_row(history):
        raise BadHistory(-1)
    events = []
    writing = False
    reading = False
    for index, event in enumerate(history):
        if not is_event(event, size) or not can_stand(event[0], writing, reading):
            raise BadHistory(index)
        if event[0] in ("write", "wrote"):
            writing = not writing
        else:
            reading = not reading
        events.append(tuple(event))
    return events


def gone_through(events, start):
    """Give what the promises ask about: the writes, the told reads and the read under way.

    The writes are a list of their values by number. Each told read is a tuple of the index of
    its told event, LOW, HIGH and the told value. The read under way is its LOW, or None.
    """
    values = [start]
    told = []
    ended = 0
    low = None
    for index, event in enumerate(events):
        if event[0] == "write":
            values.append(event[1])
        elif event[0] == "wrote":
            ended = len(values) - 1
        elif event[0] == "read":
            low = ended
        else:
            told.append((index, low, len(values) - 1, event[1]))
            low = None
    return values, told, low


def open_values(values, low, high, promise, size):
    """Give the values that a read between two writes may tell, in any order, also several times."""
    if promise == "safe" and low < high:
        return list(range(size))
    return values[low:high + 1]


def least_number(values, low, high, value):
    """Give the least number from low to high whose write has the value, or None."""
    for number in range(low, high + 1):
        if values[number] == value:
            return number
    return None


def given_numbers(values, told):
    """Give the numbers that "atomic" gives to the told reads, None from the break on."""
    numbers = []
    last = 0
    for _, low, high, value in told:
        if last is not None:
            last = least_number(values, max(low, last), high, value)
        numbers.append(last)
    return numbers


def first_fault(values, told, promise, size):
    """Give the index of the first told event that breaks the promise, or None."""
    numbers = given_numbers(values, told)
    for (index, low, high, value), number in zip(told, numbers):
        if promise == "atomic":
            broken = number is None
        else:
            broken = value not in open_values(values, low, high, promise, size)
        if broken:
            return index
    return None
