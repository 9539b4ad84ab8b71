"""The runs of a house."""

from cellsatonce.errors import BadStep
from cellsatonce.forms import is_integer, is_row
from cellsatonce.steps import event_of, initial, moves


class Record:
    """A run: its steps, its history and its last state."""

    def __init__(self, steps, history, state):
        self.steps = steps
        self.history = history
        self.state = state


class Running:
    """A run that grows."""

    def __init__(self, house):
        self.house = house
        self.made = []
        # The first state, and the one behind each step.
        self.states = [initial(house)]

    def choices(self):
        """Give the steps that are possible now."""
        return [step for step, _ in moves(self.house, self.states[-1])]

    def can(self, step):
        """True if this step is possible now."""
        return state_behind(self.house, self.states[-1], step) is not None

    def step(self, step):
        """Make a step; give its event or None."""
        state = state_behind(self.house, self.states[-1], step)
        if state is None:
            raise BadStep(len(self.made))
        self.made.append(tuple(step))
        self.states.append(state)
        return event_of(self.made[-1])

    def back(self):
        """Take the last step back, and give it."""
        if len(self.made) == 0:
            raise BadStep(-1)
        self.states.pop()
        return self.made.pop()

    def would(self, steps):
        """Give the events that these further steps would add, without making them."""
        return followed(self.house, self.states[-1], steps).history

    def record(self):
        """Give the record of the run so far."""
        return Record(list(self.made), events_of(self.made), self.states[-1])


def run(house, steps):
    """Give the record of a run."""
    return followed(house, initial(house), steps)


def followed(house, state, steps):
    """Give the record of the steps from a state on; raise BadStep for the first wrong one."""
    if not is_row(steps):
        raise BadStep(-1)
    made = []
    for index, step in enumerate(steps):
        state = state_behind(house, state, step)
        if state is None:
            raise BadStep(index)
        made.append(tuple(step))
    return Record(made, events_of(made), state)


def state_behind(house, state, step):
    """Give the state behind a step, or None if it is not a possible step."""
    # Else True would be taken for 1 and False for 0.
    if not is_row(step) or len(step) != 3 or not is_integer(step[2]):
        return None
    for possible, behind in moves(house, state):
        if possible == tuple(step):
            return behind
    return None


def events_of(steps):
    """Give the events of these steps."""
    events = [event_of(step) for step in steps]
    return [event for event in events if event is not None]
