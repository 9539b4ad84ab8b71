import inspect
import itertools
import random
import unittest

from cellsatonce.errors import BadPromise, BadStep, NoRead
from cellsatonce.histories import fault, may_tell
from cellsatonce.kept import breaking
from cellsatonce.live import Live
from cellsatonce.runs import Running
from cellsatonce.standings import first_standing, next_standings
from cellsatonce.steps import event_of, initial
from helper import NO_PROMISES, ODD_VALUES, Case
from second import watch_of
from small_houses import PROMISES, bit, careful, empty, near_house, random_house

# A read tells the new value, and the next one the old value: that breaks "atomic" alone.
INVERSION = breaking(bit(), "atomic")
# A read that no write overlaps tells what is not there: that breaks all promises.
LIE = [("writer", "begin", 1), ("writer", "end", -1), ("reader", "begin", -1), ("reader", "end", 0)]

# Steps that are never possible.
NO_STEPS = [
    ("writer",), ("writer", "begin"), ("writer", "begin", 2), ("writer", "end", 0), ("reader", "begin", 0),
    ("reader", "begin", True), ("reader", "stop", -1), ["writer", "begin", None], ("writer", "begin", [0]), "abc",
]


def live_behind(house, promise, steps):
    live = Live(house, promise)
    for step in steps:
        live.step(step)
    return live


class LiveCase(Case):
    def check(self, live, house, steps, promise):
        """All that the Live tells fits the steps."""
        running = Running(house)
        for step in steps:
            running.step(step)
        record = running.record()
        history = record.history
        broken = fault(history, promise, size=house.size, start=house.start) is not None
        self.assertEqual(live.promise, promise)
        self.assertIs(live.kept(), not broken)
        watch = () if broken else watch_of(history, promise, house.size, house.start)
        self.assertEqual(live.standing(), (record.state, watch))
        self.assertIs(type(live.standing()), tuple)
        self.assertIs(type(live.standing()[1]), tuple)
        self.assertEqual(list(live.events()), history)
        self.assertEqual(list(live.events()), history)
        words = [event[0] for event in history]
        if words.count("read") == words.count("told"):
            self.raises(NoRead(), live.tellable)
        else:
            found = live.tellable()
            self.assertIs(type(found), list)
            self.assertEqual(found, may_tell(history, promise, size=house.size, start=house.start))
            self.assertEqual(found == [], broken)


class LiveTest(LiveCase):
    """[13.1]"""

    def test_at_first(self):
        for promise in PROMISES:
            for house in [bit(), bit("safe", 3, 2), empty(4, 1)]:
                live = Live(house, promise)
                self.check(live, house, [], promise)
                self.assertEqual(live.standing(), first_standing(house, promise))
                self.assertEqual(list(live.events()), [])
                self.assertIs(live.kept(), True)
                self.raises(NoRead(), live.tellable)

    def test_along_random_runs(self):
        broken = 0
        for seed, promise in itertools.product(range(60), PROMISES):
            source = random.Random(seed)
            house = near_house(source) if seed % 2 else random_house(source, most_cells=2, least=seed % 3)
            live, running = Live(house, promise), Running(house)
            for _ in range(40):
                step = source.choice(running.choices())
                event = running.step(step)
                self.assertEqual(live.step(source.choice([step, list(step)])), event)
                if source.random() < 0.4:
                    self.check(live, house, running.record().steps, promise)
            self.check(live, house, running.record().steps, promise)
            broken += not live.kept()
        self.assertGreater(broken, 40)

    def test_the_standing_is_that_of_the_standings(self):
        source = random.Random(8)
        for house, promise in itertools.product([bit(), bit("safe"), careful("safe")], PROMISES):
            live, standing = Live(house, promise), first_standing(house, promise)
            for _ in range(60):
                step, behind = source.choice(next_standings(house, promise, standing))
                event = live.step(step)
                self.assertEqual(event, event_of(step))
                if behind is None:
                    self.assertEqual(live.standing()[1], ())
                    self.assertIs(live.kept(), False)
                    break
                self.assertEqual(live.standing(), behind)
                self.assertIs(live.kept(), True)
                standing = behind

    def test_step(self):
        live = Live(bit(), "regular")
        events = [live.step(step) for step in INVERSION]
        self.assertEqual(events, [("write", 1), None, ("read",), None, None, ("told", 1), ("read",), None, None,
                                  ("told", 0)])
        live = Live(bit(), "regular")
        self.assertEqual([live.step(list(step)) for step in INVERSION], events)

    def test_before_and_behind_a_break(self):
        for promise in PROMISES:
            for many in range(len(INVERSION) + 1):
                live = live_behind(bit(), promise, INVERSION[:many])
                self.check(live, bit(), INVERSION[:many], promise)
        live = live_behind(bit(), "atomic", INVERSION)
        self.assertIs(live.kept(), False)
        self.assertEqual(live.standing()[1], ())
        # It goes on, and stays broken.
        further = [("reader", "begin", -1), ("reader", "start", -1), ("reader", "finish", 1), ("reader", "end", 1)]
        for many in range(1, 5):
            live.step(further[many - 1])
            self.check(live, bit(), INVERSION + further[:many], "atomic")
            self.assertIs(live.kept(), False)
        self.raises(NoRead(), live.tellable)
        live.step(("reader", "begin", -1))
        self.assertEqual(live.tellable(), [])

    def test_tellable(self):
        # A write of 1 over 0, of which the first read has told the new value.
        steps = INVERSION[:7]
        for promise, expected in [("safe", [0, 1, 2]), ("regular", [0, 1]), ("atomic", [1])]:
            self.assertEqual(live_behind(bit(size=3), promise, steps).tellable(), expected)
        for promise, expected in [("safe", [2]), ("regular", [2]), ("atomic", [2])]:
            self.assertEqual(live_behind(bit(size=3, start=2), promise, steps[2:3]).tellable(), expected)
        # NoRead comes first, also behind a break.
        for promise in PROMISES:
            live = live_behind(empty(), promise, LIE)
            self.assertIs(live.kept(), False)
            self.raises(NoRead(), live.tellable)
            live.step(("reader", "begin", -1))
            self.assertEqual(live.tellable(), [])

    def test_wrong_steps(self):
        for promise in PROMISES:
            for many in range(len(INVERSION) + 1):
                live = live_behind(bit(), promise, INVERSION[:many])
                for value in ODD_VALUES + NO_STEPS:
                    self.raises(BadStep(many), live.step, value)
                self.raises(BadStep(many), live.step, ("reader", "finish", 7))
                self.check(live, bit(), INVERSION[:many], promise)
        live = live_behind(bit(), "safe", [("writer", "begin", 1)])
        self.raises(BadStep(1), live.step, ("writer", "begin", 1))
        self.raises(BadStep(1), live.step, ("reader", "begin", False))
        self.assertIsNone(live.step(("writer", "start", -1)))

    def test_the_step_is_not_kept(self):
        live = Live(bit(), "safe")
        step = ["writer", "begin", 1]
        live.step(step)
        step[2] = 0
        self.assertEqual(list(live.events()), [("write", 1)])
        self.check(live, bit(), [("writer", "begin", 1)], "safe")

    def test_events_is_a_generator(self):
        live = live_behind(bit(), "safe", INVERSION)
        self.assertTrue(inspect.isgeneratorfunction(Live.events))
        self.assertTrue(inspect.isgenerator(live.events()))
        first, second = live.events(), live.events()
        self.assertEqual(next(first), ("write", 1))
        self.assertEqual(next(first), ("read",))
        self.assertEqual(next(second), ("write", 1))
        self.assertEqual(list(second), list(live.events())[1:])
        self.assertEqual(len(list(first)), 3)
        live.step(("reader", "begin", -1))
        self.assertEqual(len(list(live.events())), 6)

    def test_two_of_one_house(self):
        house = bit()
        first, second = Live(house, "atomic"), Live(house, "atomic")
        for step in INVERSION:
            first.step(step)
        self.check(second, house, [], "atomic")
        second.step(("reader", "begin", -1))
        second.promise = "safe"
        self.check(first, house, INVERSION, "atomic")
        self.check(second, house, [("reader", "begin", -1)], "safe")
        self.assertEqual(house, bit())
        self.assertEqual(initial(house), first_standing(house, "safe")[0])

    def test_each_answer_is_new(self):
        live = live_behind(bit(), "safe", INVERSION[:3])
        live.tellable().clear()
        self.assertEqual(live.tellable(), [0, 1])
        events = list(live.events())
        events.clear()
        self.check(live, bit(), INVERSION[:3], "safe")

    def test_wrong_promises(self):
        self.raises_for_promises(lambda value: Live(bit(), value))


class PromiseTest(LiveCase):
    """[13.2]"""

    def test_is_a_property_with_a_setter(self):
        self.assertIsInstance(vars(Live)["promise"], property)
        self.assertIsNotNone(vars(Live)["promise"].fset)
        for promise in PROMISES:
            self.assertEqual(Live(bit(), promise).promise, promise)

    def test_the_whole_history_is_watched_anew(self):
        for first, second in itertools.product(PROMISES, PROMISES):
            for many in range(len(INVERSION) + 1):
                steps = INVERSION[:many]
                live = live_behind(bit(), first, steps)
                live.promise = second
                self.check(live, bit(), steps, second)
                live.promise = first
                self.check(live, bit(), steps, first)

    def test_rewatch(self):
        for first, second in itertools.product(PROMISES, PROMISES):
            for many in range(len(INVERSION) + 1):
                steps = INVERSION[:many]
                live = live_behind(bit(), first, steps)
                expected = many < len(INVERSION) or second != "atomic"
                self.assertIs(live.rewatch(second), expected)
                self.check(live, bit(), steps, second)

    def test_goes_on_by_the_new_promise(self):
        for second in ["safe", "regular"]:
            live = live_behind(bit(), "atomic", INVERSION)
            self.assertIs(live.kept(), False)
            self.assertIs(live.rewatch(second), True)
            live.step(("reader", "begin", -1))
            self.assertEqual(live.tellable(), [0, 1])
            self.assertIs(live.rewatch("atomic"), False)
            self.assertEqual(live.tellable(), [])
        live = live_behind(bit(), "regular", INVERSION[:-1])
        live.promise = "atomic"
        self.assertIs(live.kept(), True)
        live.step(INVERSION[-1])
        self.assertIs(live.kept(), False)

    def test_along_random_runs(self):
        for seed in range(60):
            source = random.Random(seed)
            house = near_house(source) if seed % 2 else random_house(source, most_cells=2)
            promise = source.choice(PROMISES)
            live, running = Live(house, promise), Running(house)
            for _ in range(50):
                if source.random() < 0.2:
                    promise = source.choice(PROMISES)
                    if source.random() < 0.5:
                        live.promise = promise
                    else:
                        self.assertIs(live.rewatch(promise), live.kept())
                    self.check(live, house, running.record().steps, promise)
                else:
                    step = source.choice(running.choices())
                    running.step(step)
                    live.step(step)

    def test_wrong_promises(self):
        for house, steps in [(bit(), []), (bit(), INVERSION[:3]), (bit(), INVERSION), (empty(), LIE)]:
            for promise in PROMISES:
                live = live_behind(house, promise, steps)
                for value in NO_PROMISES:
                    with self.assertRaises(BadPromise):
                        live.promise = value
                    self.raises(BadPromise(), live.rewatch, value)
                    self.assertEqual(live.promise, promise)
                self.check(live, house, steps, promise)


if __name__ == "__main__":
    unittest.main()
