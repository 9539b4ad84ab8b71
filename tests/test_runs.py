import random
import unittest

from cellsatonce.cells import Cell
from cellsatonce.errors import BadStep
from cellsatonce.histories import checked
from cellsatonce.houses import House
from cellsatonce.programs import Program
from cellsatonce.runs import Record, Running, run
from cellsatonce.steps import event_of, initial, moves
from helper import ODD_VALUES, Case
from small_houses import bit, empty, random_house

# A run of bit() in which the writer writes 1 and the reader tells it.
STEPS = [
    ("writer", "begin", 1), ("writer", "start", -1), ("reader", "begin", -1), ("reader", "start", -1),
    ("reader", "finish", 1), ("writer", "finish", -1), ("reader", "end", 1), ("writer", "end", -1)]
HISTORY = [("write", 1), ("read",), ("told", 1), ("wrote",)]
# What looks like a step, but is none or is never possible in bit().
NO_STEPS = [
    ("writer", "begin", True), ("writer", "begin", False), ["writer", "begin", True], ("writer", "begin", None),
    ("writer", "begin", "1"), ("writer", "begin", (1,)), ("writer", "begin", [1]), ("writer", "begin", {"a": 1}),
    ("writer", "begin"), ("writer", "begin", 1, 0), ("writer",), ("writer", 1, "begin"), ("begin", "writer", 1),
    (("writer", "begin", 1),), [["writer", "begin", 1]], "begin", "writer begin 1", {"writer": 1, "begin": 1, 1: 1},
    ("Writer", "begin", 1), ("writer", "Begin", 1), ("both", "begin", 1), (["writer"], "begin", 1),
    ("writer", ["begin"], 1), (None, "begin", 1), ("writer", None, 1), (True, True, True), (1, 1, 1),
    ("writer", "begin", -1), ("writer", "begin", 2), ("writer", "begin", 10 ** 39), ("reader", "begin", 0),
    ("reader", "begin", 1), ("reader", "read", -1), ("writer", "write", 1), ("write", 1), ("read",),
    ("writer", "once", -1), ("reader", "once", 0)]
NO_STEPS += ODD_VALUES
NO_STEPS += [row for odd in ODD_VALUES for row in [(odd, "begin", 1), ("writer", odd, 1), ("writer", "begin", odd)]]
# Steps of bit() that are not possible at first.
LATER_STEPS = [
    ("writer", "start", -1), ("reader", "start", -1), ("writer", "finish", -1), ("reader", "finish", 0),
    ("reader", "finish", 1), ("writer", "end", -1), ("reader", "end", 0), ("reader", "end", 1)]


def told(record):
    """All that a record tells."""
    return (record.steps, record.history, record.state)


def all_told(running):
    """All that a growing run tells."""
    return (running.choices(),) + told(running.record())


def random_run(source, house, many):
    """So many steps of a run."""
    steps, state = [], initial(house)
    for _ in range(many):
        step, state = source.choice(moves(house, state))
        steps.append(step)
    return steps


class RunTest(Case):
    """[5.1], [5.2]"""

    def test_the_empty_run(self):
        for house in [bit(), empty(3)]:
            for steps in [[], ()]:
                record = run(house, steps)
                self.assertIsInstance(record, Record)
                self.assertEqual(told(record), ([], [], initial(house)))

    def test_examples(self):
        self.assertEqual(run(bit(), STEPS[:4]).state, ((2, 0, (), 1), (2, 0, (0,), -1), ((0, 1, (0, 1)),)))
        state = ((2, 0, (), 1), (3, -1, (1,), 1), ((0, 1, ()),))
        self.assertEqual(run(bit(), STEPS[:4] + [("reader", "finish", 1)]).state, state)

    def test_steps_as_lists_and_as_tuples(self):
        rows = [STEPS, tuple(STEPS), [list(step) for step in STEPS], tuple([list(step) for step in STEPS]),
                [list(step) if k % 2 else step for k, step in enumerate(STEPS)]]
        for steps in rows:
            record = run(bit(), steps)
            self.assertEqual(record.steps, STEPS)
            self.assertEqual([type(step) for step in record.steps], [tuple] * 8)
            self.assertEqual(record.history, HISTORY)
            self.assertEqual(record.state, ((0, -1, (), -1), (0, -1, (1,), -1), ((1, -1, ()),)))

    def test_the_attributes(self):
        record = run(bit(), STEPS)
        for name, kind in [("steps", list), ("history", list), ("state", tuple)]:
            self.assertIs(type(vars(record)[name]), kind)
        self.assertEqual([type(event) for event in record.history], [tuple] * 4)

    def test_each_event(self):
        events = [("write", 1), None, ("read",), None, None, None, ("told", 1), ("wrote",)]
        for many, event in enumerate(events):
            before, after = run(bit(), STEPS[:many]).history, run(bit(), STEPS[:many + 1]).history
            self.assertEqual(after, before + ([] if event is None else [event]))

    def test_the_ten_steps_of_the_document(self):
        steps = [
            ("writer", "begin", 1), ("writer", "start", -1),
            ("reader", "begin", -1), ("reader", "start", -1), ("reader", "finish", 1), ("reader", "end", 1),
            ("reader", "begin", -1), ("reader", "start", -1), ("reader", "finish", 0), ("reader", "end", 0)]
        self.assertEqual(
            run(bit(), steps).history, [("write", 1), ("read",), ("told", 1), ("read",), ("told", 0)])

    def test_runs_at_random(self):
        for seed in range(150):
            source = random.Random(seed)
            house = random_house(source)
            steps = random_run(source, house, 50)
            state, history = initial(house), []
            for step in steps:
                state = dict(moves(house, state))[step]
                history.extend([] if event_of(step) is None else [event_of(step)])
            with self.subTest(seed=seed):
                self.assertEqual(told(run(house, steps)), (steps, history, state))
                self.assertEqual(checked(history, size=house.size), history)

    def test_long_runs(self):
        house = empty()
        steps = [("reader", "begin", -1), ("reader", "end", 0)] * 1000
        record = run(house, steps)
        self.assertEqual(record.steps, steps)
        self.assertEqual(record.history, [("read",), ("told", 0)] * 1000)


class WrongRunTest(Case):
    """[5.2] BadStep"""

    def test_what_is_no_row(self):
        for value in ODD_VALUES + ["writer", {"a": 1}, 3]:
            if not isinstance(value, (list, tuple)):
                self.raises(BadStep(-1), run, bit(), value)

    def test_the_first_wrong_step(self):
        for wrong in NO_STEPS + LATER_STEPS:
            with self.subTest(wrong=str(wrong)[:50]):
                self.raises(BadStep(0), run, bit(), [wrong])
                self.raises(BadStep(0), run, bit(), (wrong,))
                self.raises(BadStep(8), run, bit(), STEPS + [wrong])
                self.raises(BadStep(8), run, bit(), STEPS + [wrong, None] + STEPS)

    def test_a_value_that_is_true_or_false(self):
        self.raises(BadStep(4), run, bit(), STEPS[:4] + [("reader", "finish", True)])
        self.raises(BadStep(4), run, bit(), STEPS[:4] + [("reader", "finish", False)])
        self.raises(BadStep(6), run, bit(), STEPS[:6] + [("reader", "end", True)])
        self.raises(BadStep(0), run, bit(), [["writer", "begin", True]])

    def test_each_step_of_the_run_is_needed(self):
        # Just the choices are possible at each place.
        steps = [(side, word, value) for side in ["writer", "reader"]
                 for word in ["begin", "start", "finish", "once", "end"] for value in [-2, -1, 0, 1, 2]]
        for many in range(len(STEPS)):
            possible = Running(bit())
            for step in STEPS[:many]:
                possible.step(step)
            for step in steps:
                with self.subTest(many=many, step=step):
                    if step in possible.choices():
                        self.assertEqual(len(run(bit(), STEPS[:many] + [step]).steps), many + 1)
                    else:
                        self.raises(BadStep(many), run, bit(), STEPS[:many] + [step])

    def test_values_that_a_get_may_not_tell(self):
        ahead = [("reader", "begin", -1), ("reader", "start", -1)]
        self.raises(BadStep(2), run, bit(), ahead + [("reader", "finish", 1)])
        self.raises(BadStep(2), run, bit(), ahead + [("reader", "finish", -1)])
        self.raises(BadStep(3), run, bit(), ahead + [("reader", "finish", 0), ("reader", "end", 1)])

    def test_words_by_the_kind_of_the_cell(self):
        self.raises(BadStep(1), run, bit("atomic"), [("writer", "begin", 1), ("writer", "start", -1)])
        for kind in ["safe", "regular"]:
            self.raises(BadStep(1), run, bit(kind), [("writer", "begin", 1), ("writer", "once", -1)])


class NewEachTimeTest(Case):
    """[1.6], [5.2]"""

    def test_records_do_not_share(self):
        house = bit()
        first, second = run(house, STEPS), run(house, STEPS)
        first.steps.clear()
        first.history.clear()
        self.assertEqual(told(second)[:2], (STEPS, HISTORY))
        self.assertEqual(told(run(house, STEPS))[:2], (STEPS, HISTORY))

    def test_a_record_keeps_nothing_that_was_passed(self):
        steps = [list(step) for step in STEPS]
        record = run(bit(), steps)
        steps[0][2] = 0
        steps.pop()
        self.assertEqual(record.steps, STEPS)

    def test_a_growing_run_shares_nothing(self):
        running = Running(bit())
        steps = [list(step) for step in STEPS]
        for step in steps:
            running.step(step)
            step[2] = 7
        for record in [running.record(), running.record()]:
            self.assertEqual(told(record)[:2], (STEPS, HISTORY))
            record.steps.clear()
            record.history.clear()
        running.choices().clear()
        running.would([]).append(("read",))
        running.would([("reader", "begin", -1)]).append(("read",))
        self.assertEqual(told(running.record())[:2], (STEPS, HISTORY))
        self.assertEqual(len(running.choices()), 3)

    def test_a_record_does_not_grow(self):
        running = Running(bit())
        record = running.record()
        running.step(STEPS[0])
        self.assertEqual(told(record), ([], [], initial(bit())))
        record = running.record()
        running.back()
        self.assertEqual(record.steps, STEPS[:1])
        self.assertEqual(record.history, HISTORY[:1])

    def test_two_runs_of_one_house(self):
        house = bit()
        first, second = Running(house), Running(house)
        first.step(STEPS[0])
        self.assertEqual(all_told(second), all_told(Running(bit())))
        self.assertEqual(house, bit())


class RunningTest(Case):
    """[5.3]"""

    def grown(self, steps, house=None):
        running = Running(house or bit())
        for step in steps:
            running.step(step)
        return running

    def test_choices(self):
        self.assertEqual(
            Running(bit()).choices(), [("writer", "begin", 0), ("writer", "begin", 1), ("reader", "begin", -1)])
        self.assertEqual(
            self.grown(STEPS[:4]).choices(),
            [("writer", "finish", -1), ("reader", "finish", 0), ("reader", "finish", 1)])

    def test_choices_are_in_the_order_of_moves(self):
        for seed in range(60):
            source = random.Random(seed)
            house = random_house(source)
            running = Running(house)
            for _ in range(30):
                choices = running.choices()
                self.assertIs(type(choices), list)
                self.assertEqual(choices, [step for step, _ in moves(house, running.record().state)])
                running.step(source.choice(choices))

    def test_can(self):
        for many in range(len(STEPS)):
            running = self.grown(STEPS[:many])
            before = all_told(running)
            for step in STEPS + LATER_STEPS:
                with self.subTest(many=many, step=step):
                    possible = step in running.choices()
                    self.assertIs(running.can(step), possible)
                    self.assertIs(running.can(list(step)), possible)
            self.assertEqual(all_told(running), before)

    def test_can_for_what_is_no_step(self):
        running = Running(bit())
        for value in NO_STEPS + LATER_STEPS:
            with self.subTest(value=str(value)[:50]):
                self.assertIs(running.can(value), False)
        self.assertIs(self.grown(STEPS[:4]).can(("reader", "finish", True)), False)
        self.assertIs(self.grown(STEPS[:4]).can(("reader", "finish", 1)), True)

    def test_step_tells_the_event(self):
        running = Running(bit())
        for step in STEPS:
            event = running.step(step)
            self.assertEqual(event, event_of(step))
            self.assertIn(type(event), [tuple, type(None)])
        running = Running(bit())
        self.assertEqual([running.step(list(step)) for step in STEPS], [event_of(step) for step in STEPS])
        self.assertEqual(told(running.record()), told(run(bit(), STEPS)))

    def test_a_wrong_step_changes_nothing(self):
        for many in [0, 8]:
            running = self.grown(STEPS[:many])
            before = all_told(running)
            for value in NO_STEPS + LATER_STEPS:
                with self.subTest(value=str(value)[:50]):
                    self.raises(BadStep(many), running.step, value)
                    self.assertEqual(all_told(running), before)
            self.assertIs(running.can(STEPS[0]), True)

    def test_wrong_steps_are_not_counted(self):
        running = Running(bit())
        for many, step in enumerate(STEPS):
            self.raises(BadStep(many), running.step, ("writer", "once", -1))
            self.raises(BadStep(many), running.step, None)
            running.step(step)
        running.back()
        self.raises(BadStep(7), running.step, None)

    def test_back(self):
        running = self.grown(STEPS)
        for many in range(len(STEPS) - 1, -1, -1):
            step = running.back()
            self.assertEqual(step, STEPS[many])
            self.assertIs(type(step), tuple)
            self.assertEqual(all_told(running), all_told(self.grown(STEPS[:many])))
        for _ in range(2):
            self.raises(BadStep(-1), running.back)
            self.assertEqual(all_told(running), all_told(Running(bit())))
        running.step(STEPS[0])
        self.assertEqual(told(running.record()), told(run(bit(), STEPS[:1])))

    def test_back_tells_a_tuple_for_a_step_passed_as_a_list(self):
        running = Running(bit())
        running.step(["writer", "begin", 1])
        step = running.back()
        self.assertEqual(step, ("writer", "begin", 1))
        self.assertIs(type(step), tuple)

    def test_would(self):
        for many in range(len(STEPS) + 1):
            running = self.grown(STEPS[:many])
            before = all_told(running)
            events = [event_of(step) for step in STEPS[many:] if event_of(step) is not None]
            for steps in [STEPS[many:], tuple(STEPS[many:]), [list(step) for step in STEPS[many:]]]:
                self.assertEqual(running.would(steps), events)
                self.assertIs(type(running.would(steps)), list)
                self.assertEqual(all_told(running), before)
            self.assertEqual(running.would([]), [])
            self.assertEqual(running.would(()), [])

    def test_would_with_wrong_steps(self):
        for many in range(len(STEPS)):
            running = self.grown(STEPS[:many])
            before = all_told(running)
            for further in range(len(STEPS) - many + 1):
                good = STEPS[many:many + further]
                for wrong in [None, ("writer", "once", -1), ("reader", "finish", True), [], ("writer",)]:
                    self.raises(BadStep(further), running.would, good + [wrong])
                    self.raises(BadStep(further), running.would, tuple(good) + (wrong,) + tuple(STEPS))
            for value in ODD_VALUES:
                if not isinstance(value, (list, tuple)):
                    self.raises(BadStep(-1), running.would, value)
            self.assertEqual(all_told(running), before)
        running = Running(bit())
        for wrong in NO_STEPS:
            self.raises(BadStep(1), running.would, [STEPS[0], wrong])
        self.assertEqual(all_told(running), all_told(Running(bit())))

    def test_record(self):
        running = Running(bit())
        self.assertIsInstance(running.record(), Record)
        for many, step in enumerate(STEPS):
            self.assertEqual(told(running.record()), told(run(bit(), STEPS[:many])))
            running.step(step)
        self.assertEqual(told(running.record()), (STEPS, HISTORY, run(bit(), STEPS).state))

    def test_growing_and_shrinking_at_random(self):
        for seed in range(60):
            source = random.Random(seed)
            house = random_house(source)
            running, steps = Running(house), []
            for _ in range(60):
                if steps and source.random() < 0.3:
                    self.assertEqual(running.back(), steps.pop())
                else:
                    steps.append(source.choice(running.choices()))
                    self.assertEqual(running.step(steps[-1]), event_of(steps[-1]))
            self.assertEqual(told(running.record()), told(run(house, steps)))

    def test_a_house_of_two_cells(self):
        # The reader writes its own cell, and the writer gets it.
        cells = [Cell("a", "safe", 2), Cell("b", "atomic", 2, owner="reader")]
        writer = Program("writer", {"x": (2, 1)}, [("get", "x", "b"), ("write", "a", "x")])
        reader = Program("reader", {"y": (2, 0)}, [("get", "y", "a"), ("write", "b", 1), ("return", "y")])
        running = Running(House(cells, writer, reader))
        steps = [
            ("writer", "begin", 1), ("writer", "once", 0), ("writer", "start", -1), ("reader", "begin", -1),
            ("reader", "start", -1), ("reader", "finish", 1), ("reader", "once", -1), ("reader", "end", 1)]
        for step in steps:
            running.step(step)
        self.assertEqual(
            running.record().state, ((2, 1, (0,), 1), (0, -1, (1,), -1), ((0, 0, ()), (1, -1, ()))))


if __name__ == "__main__":
    unittest.main()
