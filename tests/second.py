"""A second way to say what sections 4 to 6 say.

A round is a generator over the statements of its program, a cell is nothing but the history of
its writes and gets, and a watch is found anew from the whole history each time.
"""

from cellsatonce.histories import earliest, fault, may_tell
from cellsatonce.steps import event_of, initial, moves


def many_in(block):
    """The number of statements that stand in a block."""
    return sum(1 + sum(many_in(inner) for inner in statement[3:]) for statement in block)


class Side:
    """The writer or the reader of a house, in the midst of its rounds."""

    def __init__(self, house, side):
        self.side = side
        self.house_size = house.size
        self.program = house.writer if side == "writer" else house.reader
        self.sizes = {name: size for name, size, _ in self.program.store}
        self.room = {name: start for name, _, start in self.program.store}
        self.phase = 0
        self.new = -1
        self.told = -1
        self.at = None

    def term(self, term):
        if isinstance(term, tuple):
            _, name, number = term
            return (self.room[name] + number) % self.sizes[name]
        if term == "new":
            return self.new
        return self.room[term] if isinstance(term, str) else term

    def follow(self, block, place):
        """Yields (place, word, cell, term) at each get and write; returns what the round tells."""
        for statement in block:
            word, first, second = (statement + (None,))[:3]
            told = None
            if word == "get":
                self.room[first] = (yield place, word, second, None) % self.sizes[first]
            elif word == "write":
                yield place, word, first, second
            elif word == "set":
                self.room[first] = self.term(second) % self.sizes[first]
            elif word == "return":
                return self.term(first) % self.house_size
            elif word == "if":
                yes, no = statement[3:]
                if self.room[first] == self.term(second):
                    told = yield from self.follow(yes, place + 1)
                else:
                    told = yield from self.follow(no, place + 1 + many_in(yes))
            else:
                while told is None and self.room[first] == self.term(second):
                    told = yield from self.follow(statement[3], place + 1)
            if told is not None:
                return told
            place += many_in([statement])
        return None

    def begin(self, new):
        self.new = new
        self.round = self.follow(self.program.block, 0)
        self.go_on(None)

    def go_on(self, value):
        try:
            self.at = self.round.send(value)
            self.phase = 1
        except StopIteration as end:
            self.at = None
            self.phase = 3
            if self.side == "reader":
                self.told = 0 if end.value is None else end.value

    def end(self):
        self.phase = 0
        self.new = -1
        self.told = -1

    def part(self):
        """The part of a state that is the side's own."""
        place = -1 if self.at is None else self.at[0]
        values = tuple(self.room[name] for name in sorted(self.room))
        return (self.phase, place, values, self.new if self.side == "writer" else self.told)


def write_values(history, start):
    return [start] + [event[1] for event in history if event[0] == "write"]


def many(history, word):
    return [event[0] for event in history].count(word)


class Twin:
    """A house in the midst of a run."""

    def __init__(self, house):
        self.house = house
        self.sides = {side: Side(house, side) for side in ["writer", "reader"]}
        # The history of each cell: its owner writes, and the other side reads.
        self.histories = {cell.name: [] for cell in house.cells}

    def value(self, cell):
        """The value of the last write of a cell that has ended."""
        history = self.histories[cell.name]
        return write_values(history, cell.start)[many(history, "wrote")]

    def tellable(self, side, cell, history):
        if side == cell.owner:
            return [self.value(cell)]
        return may_tell(history, cell.kind, size=cell.size, start=cell.start)

    def choices(self):
        return self.choices_of("writer") + self.choices_of("reader")

    def choices_of(self, side):
        part = self.sides[side]
        if part.phase == 0:
            return [(side, "begin", new) for new in (range(self.house.size) if side == "writer" else [-1])]
        if part.phase == 3:
            return [(side, "end", part.told)]
        cell = self.house.cell(part.at[2])
        history = self.histories[cell.name]
        if cell.kind == "atomic":
            history = history + [("read",)]
        elif part.phase == 1:
            return [(side, "start", -1)]
        values = [-1] if part.at[1] == "write" else self.tellable(side, cell, history)
        return [(side, "once" if cell.kind == "atomic" else "finish", value) for value in values]

    def step(self, step):
        side, word, value = step
        part = self.sides[side]
        if word == "begin":
            part.begin(value)
        elif word == "end":
            part.end()
        else:
            if word in ["start", "once"]:
                self.start(side, part)
            if word in ["finish", "once"]:
                self.finish(side, part, value)

    def start(self, side, part):
        _, word, name, term = part.at
        cell = self.house.cell(name)
        part.phase = 2
        if word == "write":
            self.histories[name].append(("write", part.term(term) % cell.size))
        elif side != cell.owner:
            self.histories[name].append(("read",))

    def finish(self, side, part, value):
        _, word, name, _ = part.at
        if word == "write":
            self.histories[name].append(("wrote",))
        elif side != self.house.cell(name).owner:
            self.histories[name].append(("told", value))
        part.go_on(value)

    def cell_part(self, cell):
        """The part of a state that is a cell's."""
        history = self.histories[cell.name]
        values = write_values(history, cell.start)
        under = values[-1] if many(history, "write") > many(history, "wrote") else -1
        seen = ()
        if many(history, "read") > many(history, "told"):
            seen = tuple(may_tell(history, cell.kind, size=cell.size, start=cell.start))
        return (self.value(cell), under, seen)

    def state(self):
        cells = tuple(self.cell_part(cell) for cell in self.house.cells)
        return (self.sides["writer"].part(), self.sides["reader"].part(), cells)


def watch_of(history, promise, size, start):
    """The watch behind a history that keeps the promise, by the numbers of its writes."""
    values = write_values(history, start)
    begun = len(values) - 1
    ended = many(history, "wrote")
    watch = (values[ended], values[begun] if begun > ended else -1)
    reading = many(history, "read") > many(history, "told")
    low = 0
    if reading:
        at = max(k for k, event in enumerate(history) if event == ("read",))
        low = many(history[:at], "wrote")
    if promise == "safe":
        return watch + ((1 if low == begun else 2) if reading else 0,)
    if promise == "regular":
        return watch + (tuple(sorted(set(values[low:begun + 1]))) if reading else (),)
    given = (earliest(history, size=size, start=start) or [0])[-1]
    if reading:
        return watch + (2, tuple(sorted(set(values[max(low, given):ended + 1]))))
    return watch + (1 if given > ended else 0, ())


def standings_of(house, promise, most):
    """All reached standings, or the first ones if there are more than most."""
    return gone_from_the_first(house, promise, most)[0]


def gone_from_the_first(house, promise, most):
    """The reached standings, but not many more than most, and whether a step from them is a break."""
    first = (initial(house), watch_of([], promise, house.size, house.start))
    histories = {first: []}
    todo = [first]
    broken = False
    for standing in todo:
        for step, state in moves(house, standing[0]):
            event = event_of(step)
            history = histories[standing] + ([] if event is None else [event])
            if fault(history, promise, size=house.size, start=house.start) is None:
                behind = (state, watch_of(history, promise, house.size, house.start))
                if behind not in histories and len(todo) <= most:
                    histories[behind] = history
                    todo.append(behind)
            else:
                broken = True
    return todo, broken


def first_run(house, verdict, most):
    """The first of the shortest runs that is to be found, by going through all runs step by step.

    The verdict on a history is "found", "on" or "off". None means that no run of at most that many
    steps is to be found; if the runs become too many, the answer is "many".
    """
    level = {(initial(house), ()): []}
    for _ in range(most):
        further = {}
        for (state, history), steps in level.items():
            for step, behind in moves(house, state):
                event = event_of(step)
                longer = history if event is None else history + (event,)
                word = "on" if event is None else verdict(longer)
                if word == "found":
                    return steps + [step]
                if word == "on":
                    further.setdefault((behind, longer), steps + [step])
        level = further
        if len(level) > 4000:
            return "many"
    return None


def has_history(house, history):
    """True if some run of the house has this history."""
    states = quiet(house, {initial(house)})
    for event in history:
        behind = [(step, state) for start in states for step, state in moves(house, start)]
        states = quiet(house, {state for step, state in behind if event_of(step) == event})
    return len(states) > 0


def quiet(house, states):
    """These states and all that steps without an event lead to from them."""
    todo = list(states)
    found = set(states)
    for start in todo:
        for step, state in moves(house, start):
            if event_of(step) is None and state not in found:
                found.add(state)
                todo.append(state)
    return found
