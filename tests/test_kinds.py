import itertools
import random
import unittest

from cellsatonce.cells import Cell
from cellsatonce.errors import BadStep
from cellsatonce.histories import fault
from cellsatonce.houses import House
from cellsatonce.programs import Program
from cellsatonce.runs import Running, run
from cellsatonce.steps import event_of, initial, moves
from helper import Case
from second import Twin, has_history
from small_houses import KINDS, PROMISES, bit, lots, random_house

# A new value is told while its write is under way, and then the old one.
INVERSION = [("write", 1), ("read",), ("told", 1), ("read",), ("told", 0)]
# While 1 is written over 0, a value is told that nobody wrote.
UNWRITTEN = [("write", 1), ("read",), ("told", 2)]


def random_run(source, house, many):
    running = Running(house)
    for _ in range(many):
        running.step(source.choice(running.choices()))
    return running.record()


def cell_histories(house, steps):
    """The history of each cell in a run: what its owner writes, and what the other side gets."""
    twin = Twin(house)
    for step in steps:
        twin.step(step)
    return [(cell, twin.histories[cell.name]) for cell in house.cells]


def histories_within(house, many):
    """The histories of all runs with at most so many steps."""
    found = {(initial(house), ())}
    for _ in range(many):
        further = set()
        for state, history in found:
            for step, behind in moves(house, state):
                event = event_of(step)
                further.add((behind, history if event is None else history + (event,)))
        found |= further
    return {history for _, history in found}


def side_cell(house, state, side):
    """The cell that the side is at."""
    number = 0 if side == "writer" else 1
    program = [house.writer, house.reader][number]
    statement = list(program.walk())[state[number][1]][2]
    return house.cell(statement[2] if statement[0] == "get" else statement[1])


def spelled_out(house, weak, steps):
    """The steps for the house with weaker kinds: what was done at once is started and finished."""
    found, state = [], initial(house)
    for step in steps:
        side, word, value = step
        if word == "once" and weak.cell(side_cell(house, state, side).name).kind != "atomic":
            found.extend([(side, "start", -1), (side, "finish", value)])
        else:
            found.append(step)
        state = dict(moves(house, state))[step]
    return found


class CellsTest(Case):
    """[4.5], [4.6]: a cell of a kind keeps the promise of that name"""

    def test_each_cell_keeps_its_promise(self):
        seen = {kind: 0 for kind in KINDS}
        for seed in range(200):
            source = random.Random(seed)
            house = random_house(source, least=seed % 3)
            steps = random_run(source, house, 80).steps
            for cell, history in cell_histories(house, steps):
                with self.subTest(seed=seed, cell=cell.name):
                    self.assertIsNone(fault(history, cell.kind, size=cell.size, start=cell.start))
                    seen[cell.kind] += ("read",) in history and ("wrote",) in history
        self.assertTrue(all(many > 10 for many in seen.values()), seen)

    def test_a_cell_tells_all_that_its_promise_allows(self):
        # A made cell that is just one cell has the histories of that cell.
        for kind in ["safe", "regular"]:
            house = bit(kind, size=3)
            for history in histories_within(bit("safe", size=3), 10):
                if fault(history, kind, size=3) is None:
                    self.assertTrue(has_history(house, history), (kind, history))
                else:
                    self.assertFalse(has_history(house, history), (kind, history))

    def test_an_atomic_cell_refuses_inversions(self):
        self.assertTrue(has_history(bit("safe"), INVERSION))
        self.assertTrue(has_history(bit("regular"), INVERSION))
        self.assertFalse(has_history(bit("atomic"), INVERSION))
        self.assertTrue(has_history(bit("atomic"), INVERSION[:4] + [("told", 1)]))

    def test_a_regular_cell_refuses_what_was_not_written(self):
        self.assertTrue(has_history(bit("safe", size=3), UNWRITTEN))
        self.assertFalse(has_history(bit("regular", size=3), UNWRITTEN))
        self.assertFalse(has_history(bit("atomic", size=3), UNWRITTEN))

    def test_an_inversion_step_by_step(self):
        reads = [("reader", "begin", -1), ("reader", "start", -1), ("reader", "finish", 1), ("reader", "end", 1),
                 ("reader", "begin", -1), ("reader", "start", -1), ("reader", "finish", 0), ("reader", "end", 0)]
        steps = [("writer", "begin", 1), ("writer", "start", -1)] + reads
        for kind in ["safe", "regular"]:
            self.assertEqual(run(bit(kind), steps).history, INVERSION)
        # With an atomic cell, once the new value is told the old one cannot be.
        steps = [("writer", "begin", 1), ("writer", "once", -1), ("reader", "begin", -1), ("reader", "once", 1),
                 ("reader", "end", 1), ("reader", "begin", -1), ("reader", "once", 0)]
        self.raises(BadStep(6), run, bit("atomic"), steps)
        self.raises(BadStep(3), run, bit("atomic"), steps[:3] + [("reader", "once", 0)])


class HistoriesTest(Case):
    """[2.6], [2.7]: what a made cell tells"""

    def broken(self, house, many):
        """The promises that some history of a run with so many steps breaks."""
        found = []
        for promise in PROMISES:
            for history in histories_within(house, many):
                if fault(history, promise, size=house.size, start=house.start) is not None:
                    found.append(promise)
                    break
        return found

    def test_one_cell_is_as_good_as_its_kind(self):
        self.assertEqual(self.broken(bit("atomic", size=3), 8), [])
        self.assertEqual(self.broken(bit("regular"), 10), ["atomic"])
        self.assertEqual(self.broken(bit("safe", size=3), 10), ["regular", "atomic"])

    def test_a_house_that_tells_something_else(self):
        cells = [Cell("a", "atomic", 2)]
        writer = Program("writer", {}, [("write", "a", "new")])
        reader = Program("reader", {"x": (2, 0)}, [("get", "x", "a"), ("return", ("plus", "x", 1))])
        self.assertEqual(self.broken(House(cells, writer, reader), 4), PROMISES)
        # The start of the house is what is told at first, whatever the start of the cell is.
        house = bit("atomic")
        other = House(house.cells, house.writer, house.reader, start=1)
        self.assertEqual(self.broken(other, 4), PROMISES)

    def test_a_house_that_tells_the_start_for_ever(self):
        house = House([], Program("writer", {}, []), Program("reader", {}, []))
        self.assertEqual(self.broken(house, 3), [])
        self.assertEqual(self.broken(house, 4), PROMISES)


class WeakerKindsTest(Case):
    """[8.2]"""

    def test_each_run_is_matched(self):
        for seed in range(250):
            source = random.Random(seed)
            house = random_house(source, least=seed % 3)
            record = random_run(source, house, 50)
            for kinds in lots(house):
                weak = house.with_kinds(kinds)
                with self.subTest(seed=seed, kinds=kinds):
                    steps = spelled_out(house, weak, record.steps)
                    self.assertEqual(run(weak, steps).history, record.history)

    def test_each_history_is_there(self):
        for seed in range(60):
            source = random.Random(seed)
            house = random_house(source, most_cells=2, least=seed % 3)
            history = random_run(source, house, 30).history
            for kinds in lots(house):
                with self.subTest(seed=seed, kinds=kinds):
                    self.assertTrue(has_history(house.with_kinds(kinds), history))

    def test_all_short_histories_of_two_cells(self):
        cells = [Cell("a", "atomic", 3), Cell("b", "atomic", 2, owner="reader")]
        writer = Program("writer", {"x": (2, 0)}, [("get", "x", "b"), ("if", "x", 0, [("write", "a", "new")], [])])
        reader = Program("reader", {"y": (3, 0)}, [("get", "y", "a"), ("write", "b", "y"), ("return", "y")])
        house = House(cells, writer, reader, size=3)
        for strong, weak in itertools.product(lots(house), repeat=2):
            if all(KINDS.index(low) <= KINDS.index(high) for low, high in zip(weak, strong)):
                for history in histories_within(house.with_kinds(strong), 7):
                    self.assertTrue(has_history(house.with_kinds(weak), history), (strong, weak, history))

    def test_a_weaker_house_has_more_histories(self):
        many = [len(histories_within(bit(kind, size=3), 9)) for kind in KINDS]
        self.assertGreater(many[0], many[1])
        for history in [INVERSION, UNWRITTEN]:
            found = [has_history(bit(kind, size=3), history) for kind in KINDS]
            self.assertEqual(found, sorted(found, reverse=True))


if __name__ == "__main__":
    unittest.main()
