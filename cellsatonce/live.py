"""Runs that grow and are watched for a promise."""

from cellsatonce.histories import may_tell
from cellsatonce.runs import Running, events_of
from cellsatonce.standings import first_watch, next_watch


class Live:
    """A run that grows and is watched for a promise."""

    def __init__(self, house, promise):
        self.house = house
        self.running = Running(house)
        self.promise = promise

    @property
    def promise(self):
        """The promise that the run is watched for."""
        return self.word

    @promise.setter
    def promise(self, value):
        watch = first_watch(value, self.house.start)
        for event in events_of(self.running.made):
            watch = watch_on(value, watch, event)
        self.word = value
        # None from the break on.
        self.watch = watch

    def step(self, step):
        """Make a step; give its event or None."""
        event = self.running.step(step)
        if event is not None:
            self.watch = watch_on(self.word, self.watch, event)
        return event

    def rewatch(self, promise):
        """Watch the whole run anew for this promise; give what kept() says then."""
        self.promise = promise
        return self.kept()

    def kept(self):
        """True if the history so far keeps the promise."""
        return self.watch is not None

    def standing(self):
        """Give the state with the watch, or with () if the promise is broken."""
        return (self.running.states[-1], () if self.watch is None else self.watch)

    def tellable(self):
        """Give the values that the read under way may tell."""
        history = events_of(self.running.made)
        return may_tell(history, self.word, size=self.house.size, start=self.house.start)

    def events(self):
        """Give the events so far."""
        for event in events_of(self.running.made):
            yield event


def watch_on(promise, watch, event):
    """Give the watch behind one more event, or None from the break on."""
    if watch is None:
        return None
    return next_watch(promise, watch, event)
