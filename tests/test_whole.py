"""What holds for the whole program: sections 1 and 6, over all functions and methods."""

import copy
import sys
import unittest

from cellsatonce.cells import Cell
from cellsatonce.errors import (
    BadCell, BadHistory, BadHouse, BadLot, BadProgram, BadPromise, BadSetting, BadStep, BadText, CellError, TooMany,
)
from cellsatonce.histories import checked, earliest, fault, may_tell, order
from cellsatonce.houses import House
from cellsatonce.kept import breaking, closed, closed_fault, inversion, strongest
from cellsatonce.limits import not_atomic
from cellsatonce.live import Live
from cellsatonce.programs import Program
from cellsatonce.runs import Running, run
from cellsatonce.spare import least_programs, spare_statements
from cellsatonce.standings import first_standing, first_watch, next_standings, next_watch, reach
from cellsatonce.steps import event_of, initial, moves
from cellsatonce.texts import house_text, read_house
from cellsatonce.waits import longest, states, waits
from cellsatonce.weaker import lot_paper, paper_fault, weaker_lots
from cellsatonce.worths import pairs, renamed, told_by
from helper import NO_LIMITS, NO_PROMISES, ODD_VALUES, Case
from small_houses import PROMISES, big, bit, endless, two_bits

HISTORY = [("write", 1), ("read",), ("told", 1), ("wrote",), ("read",)]
STEPS = [("writer", "begin", 1), ("writer", "start", -1), ("reader", "begin", -1)]


def running_behind(steps):
    running = Running(bit())
    for step in steps:
        running.step(step)
    return running


def live_behind(steps):
    live = Live(bit(), "regular")
    for step in steps:
        live.step(step)
    return live


PAPER = lot_paper(bit("atomic"), "regular", ["regular"])
RUNNING = running_behind(STEPS)
LIVE = live_behind(STEPS)

# Calls of all functions and methods that give something, each with its arguments.
CALLS = {
    "checked": (checked, [HISTORY], {"size": 3}),
    "may_tell": (may_tell, [HISTORY, "safe"], {"size": 2}),
    "fault": (fault, [HISTORY, "atomic"], {}),
    "earliest": (earliest, [HISTORY], {}),
    "order": (order, [HISTORY], {}),
    "with_kind": (bit().cells[0].with_kind, ["safe"], {}),
    "without": (two_bits().reader.without, [0], {}),
    "cell": (bit().cell, ["a"], {}),
    "with_kinds": (two_bits().with_kinds, [["safe", "atomic"]], {}),
    "with_programs": (bit().with_programs, [bit().writer, bit().reader], {}),
    "initial": (initial, [bit()], {}),
    "moves": (moves, [bit(), initial(bit())], {}),
    "event_of": (event_of, [STEPS[0]], {}),
    "choices": (RUNNING.choices, [], {}),
    "can": (RUNNING.can, [["reader", "start", -1]], {}),
    "would": (RUNNING.would, [[["reader", "start", -1], ["reader", "finish", 1]]], {}),
    "first_watch": (first_watch, ["atomic", 1], {}),
    "next_watch": (next_watch, ["regular", (0, 1, (0, 1)), ["wrote"]], {}),
    "first_standing": (first_standing, [bit(), "safe"], {}),
    "next_standings": (next_standings, [bit(), "safe", first_standing(bit(), "safe")], {}),
    "reach": (reach, [bit(), "atomic"], {"limit": 264}),
    "breaking": (breaking, [bit(), "atomic"], {}),
    "strongest": (strongest, [bit()], {}),
    "closed": (closed, [bit(), "regular"], {}),
    "closed_fault": (closed_fault, [bit(), "regular", closed(bit(), "regular")[:-1]], {}),
    "inversion": (inversion, [bit()], {}),
    "weaker_lots": (weaker_lots, [two_bits("atomic", "atomic"), "regular"], {}),
    "lot_paper": (lot_paper, [bit("atomic"), "regular", ["regular"]], {}),
    "paper_fault": (paper_fault, [bit("atomic"), "regular", ["regular"], [PAPER[0], []]], {}),
    "spare_statements": (spare_statements, [two_bits(), "regular"], {}),
    "least_programs": (least_programs, [two_bits(), "regular"], {}),
    "states": (states, [bit()], {}),
    "longest": (longest, [bit(), "reader"], {}),
    "waits": (waits, [endless(), "reader"], {"alone": True}),
    "not_atomic": (not_atomic, [bit()], {}),
    "told_by": (told_by, [bit()], {}),
    "pairs": (pairs, [bit()], {}),
    "renamed": (renamed, [two_bits(), {"a": "b", "b": "c"}], {}),
    "house_text": (house_text, [bit()], {}),
    "read_house": (read_house, [house_text(two_bits())], {}),
    "kept": (LIVE.kept, [], {}),
    "standing": (LIVE.standing, [], {}),
    "tellable": (LIVE.tellable, [], {}),
    "rewatch": (LIVE.rewatch, ["regular"], {}),
    "events": (lambda: list(LIVE.events()), [], {}),
    "run": (lambda steps: vars(run(bit(), steps)), [[list(step) for step in STEPS]], {}),
    "record": (lambda: vars(RUNNING.record()), [], {}),
}
# Each function with a limit, with what stands ahead of it.
LIMITED = {
    "reach": (reach, ["safe"]), "breaking": (breaking, ["safe"]), "strongest": (strongest, []),
    "closed": (closed, ["atomic"]), "inversion": (inversion, []), "weaker_lots": (weaker_lots, ["regular"]),
    "spare_statements": (spare_statements, ["safe"]), "least_programs": (least_programs, ["safe"]),
    "lot_paper": (lot_paper, ["safe", ["safe", "regular"]]), "states": (states, []), "longest": (longest, ["writer"]),
    "waits": (waits, ["reader"]), "not_atomic": (not_atomic, []), "told_by": (told_by, []), "pairs": (pairs, []),
}
# Each function that takes a promise behind the house, with what stands behind it.
PROMISED = {
    "first_standing": (first_standing, []), "next_standings": (next_standings, [first_standing(big(), "safe")]),
    "reach": (reach, []), "breaking": (breaking, []), "closed": (closed, []), "closed_fault": (closed_fault, [[]]),
    "weaker_lots": (weaker_lots, []), "lot_paper": (lot_paper, [None]), "paper_fault": (paper_fault, [None, ([], [])]),
    "spare_statements": (spare_statements, []), "least_programs": (least_programs, []), "Live": (Live, []),
}


def spoil(answer):
    """Change each list and dict that can be reached from an answer through rows and dicts."""
    if isinstance(answer, (list, tuple)):
        for item in answer:
            spoil(item)
    if isinstance(answer, dict):
        for item in answer.values():
            spoil(item)
    if isinstance(answer, (list, dict)):
        answer.clear()


def as_lists(value):
    """The same with all rows as lists."""
    return [as_lists(item) for item in value] if isinstance(value, (list, tuple)) else value


def as_tuples(value):
    """The same with all rows as tuples."""
    return tuple(as_tuples(item) for item in value) if isinstance(value, (list, tuple)) else value


class AnswersTest(Case):
    """[1.6]: what is passed stays, and what is returned is new"""

    def test_a_changed_answer_changes_no_later_one(self):
        for name, (call, args, more) in CALLS.items():
            with self.subTest(name=name):
                answer = call(*args, **more)
                kept = copy.deepcopy(answer)
                if isinstance(answer, (list, tuple, dict)):
                    spoil(answer)
                    self.assertEqual(call(*args, **more), kept)

    def test_arguments_stay(self):
        for name, (call, args, more) in CALLS.items():
            with self.subTest(name=name):
                kept = copy.deepcopy((args, more))
                call(*args, **more)
                self.assertEqual((args, more), kept)

    def test_the_same_answer_again(self):
        for name, (call, args, more) in CALLS.items():
            with self.subTest(name=name):
                self.assertEqual(call(*args, **more), call(*copy.deepcopy(args), **copy.deepcopy(more)))

    def test_no_argument_is_kept(self):
        writer_block = [["if", "x", 0, [["write", "a", "new"]], [["write", "a", ["plus", "x", 1]]]]]
        store = {"x": [2, 0]}
        writer = Program("writer", store, writer_block)
        reader = Program("reader", {"x": (2, 0)}, [("get", "x", "a"), ("return", "x")])
        cells = [Cell("a", "regular", 2)]
        house = House(cells, writer, reader)
        before = (house_text(house), closed(house, "safe"))
        for changed in [writer_block, store, cells]:
            spoil(changed)
        self.assertEqual((house_text(house), closed(house, "safe")), before)
        self.assertEqual(writer.store, (("x", 2, 0),))


class RowsTest(Case):
    """[1.3]: a list and a tuple with the same items mean the same"""

    def test_rows_of_all_kinds(self):
        steps = breaking(bit("safe"), "regular")
        for rows in [as_lists, as_tuples]:
            self.assertEqual(checked(rows(HISTORY)), HISTORY)
            self.assertEqual(may_tell(rows(HISTORY), "regular"), [1])
            self.assertEqual(run(bit(), rows(STEPS)).steps, STEPS)
            self.assertEqual(Running(bit()).would(rows(STEPS)), [("write", 1), ("read",)])
            self.assertEqual(Program("writer", {"x": rows([2, 0])}, rows([("set", "x", ("plus", "x", 1))])).block,
                             (("set", "x", ("plus", "x", 1)),))
            house = House(rows(bit("atomic").cells), bit().writer, bit().reader)
            self.assertEqual(house, bit("atomic"))
            self.assertEqual(house.with_kinds(rows(["safe"])), bit("safe"))
            self.assertEqual(lot_paper(house, "regular", rows(["regular"])), PAPER)
            standings = list(PAPER[0]) if rows is as_lists else tuple(PAPER[0])
            self.assertIsNone(closed_fault(bit(), "regular", standings))
            paper = rows([0, 0])
            paper = type(paper)([standings, rows([(0, steps)])])
            self.assertIsNone(paper_fault(house, "regular", rows(["regular"]), paper))
            live = Live(bit(), "safe")
            self.assertEqual([live.step(row) for row in rows(STEPS)], [("write", 1), None, ("read",)])

    def test_the_order_of_keys_means_nothing(self):
        store = {"x": (2, 0), "y": (3, 1)}
        other = {"y": (3, 1), "x": (2, 0)}
        self.assertEqual(Program("writer", store, []), Program("writer", other, []))
        self.assertEqual(renamed(two_bits(), {"a": "x", "b": "y"}), renamed(two_bits(), {"b": "y", "a": "x"}))


class ErrorsTest(Case):
    """[1.4], [1.5], [1.8], [6.6]"""

    def test_errors_are_told_apart(self):
        for error in CellError.__subclasses__():
            self.assertEqual(error.__bases__, (CellError,))
            self.assertEqual(error.__subclasses__(), [])
        self.assertEqual(CellError.__bases__, (ValueError,))
        self.assertEqual(len(CellError.__subclasses__()), 14)

    def test_a_wrong_promise_comes_first(self):
        for name, (call, behind) in PROMISED.items():
            for value in NO_PROMISES:
                with self.subTest(name=name, promise=str(value)[:40]):
                    self.raises(BadPromise(), call, big(), value, *behind)
                    if name in LIMITED:
                        self.raises(BadPromise(), lambda: call(big(), value, *behind, limit=0))

    def test_a_wrong_limit(self):
        house = two_bits()
        for name, (call, ahead) in LIMITED.items():
            for value in NO_LIMITS:
                with self.subTest(name=name, limit=str(value)[:40]):
                    self.raises(BadSetting("limit"), lambda: call(house, *ahead, limit=value))

    def test_the_greatest_limit(self):
        for name, (call, ahead) in LIMITED.items():
            with self.subTest(name=name):
                self.raises(TooMany(3000), lambda: call(big(), *ahead))
                self.raises(TooMany(3000), lambda: call(big(), *ahead, limit=3000))
                self.raises(TooMany(1), lambda: call(big(), *ahead, limit=1))

    def test_wrong_values_wherever_an_error_is_named(self):
        house = two_bits("regular", "atomic")
        for value in ODD_VALUES:
            with self.subTest(value=str(value)[:40]):
                if value not in [[], ()]:
                    self.raises(BadHistory(-1 if not isinstance(value, (list, tuple)) else 0), checked, value)
                    self.raises(BadHistory(-1 if not isinstance(value, (list, tuple)) else 0), order, value)
                    self.raises(BadStep(-1 if not isinstance(value, (list, tuple)) else 0), run, house, value)
                    self.raises(BadHouse("cells"), House, value, house.writer, house.reader)
                self.raises(BadHistory(1), checked, [("read",), value])
                self.raises(BadHistory(0), fault, [("write", value)], "safe")
                self.raises(BadStep(1), run, house, [("writer", "begin", 0), value])
                self.raises(BadStep(0), run, house, [("writer", "begin", value)])
                self.raises(BadStep(0), Running(house).step, value)
                self.raises(BadStep(0), Live(house, "safe").step, value)
                self.raises(BadCell("name"), Cell, value, "safe", 2)
                self.raises(BadCell("kind"), Cell, "a", value, 2)
                self.raises(BadCell("size"), Cell, "a", "safe", value)
                self.raises(BadCell("start"), Cell, "a", "safe", 2, value)
                self.raises(BadCell("owner"), lambda: Cell("a", "safe", 2, owner=value))
                self.raises(BadCell("kind"), house.cells[0].with_kind, value)
                self.raises(BadProgram(-1, "side"), Program, value, {}, [])
                if value != {}:
                    self.raises(BadProgram(-1, "store"), Program, "writer", value, [])
                self.raises(BadProgram(-1, "store"), Program, "writer", {"x": value}, [])
                if not isinstance(value, (list, tuple)):
                    self.raises(BadProgram(-1, "block"), Program, "writer", {}, value)
                self.raises(BadProgram(0, "statement"), Program, "writer", {}, [value])
                self.raises(BadProgram(0, "cell"), Program, "writer", {}, [("write", value, 0)])
                self.raises(BadProgram(0, "term"), Program, "writer", {}, [("write", "a", value)])
                self.raises(BadProgram(0, "local"), Program, "writer", {"x": (2, 0)}, [("set", value, 0)])
                self.raises(BadHouse("writer"), House, house.cells, value, house.reader)
                self.raises(BadHouse("reader"), House, house.cells, house.writer, value)
                self.raises(BadHouse("size"), lambda: House(house.cells, house.writer, house.reader, size=value))
                self.raises(BadHouse("start"), lambda: House(house.cells, house.writer, house.reader, start=value))
                self.raises(BadHouse("cells"), house.cell, value)
                self.raises(BadHouse("cells"), house.with_kinds, value)
                self.raises(BadHouse("cells"), house.with_kinds, ["safe", value])
                self.raises(BadHouse("writer"), house.with_programs, value, house.reader)
                self.raises(BadLot(), lot_paper, house, "safe", value)
                self.raises(BadLot(), paper_fault, house, "safe", ["safe", value], ([], []))
                self.raises(BadSetting("side"), longest, house, value)
                self.raises(BadHouse("cells"), renamed, house, value)
                self.raises(BadCell("name"), renamed, house, {"a": value, "b": "c"})
                if not isinstance(value, str):
                    self.raises(BadText(0), read_house, value)
                self.raises(BadPromise(), Live, house, value)

    def test_nothing_needs_a_deep_stack(self):
        # Long runs, long chains of states, and many standings.
        least = sys.getrecursionlimit()
        frames = 0
        frame = sys._getframe()
        while frame is not None:
            frames += 1
            frame = frame.f_back
        house = two_bits("safe", "safe")
        ahead = [("writer", "begin", 0)]
        sys.setrecursionlimit(frames + 60)
        try:
            for promise in PROMISES:
                closed(house, promise)
                breaking(house, promise)
            states(house)
            longest(house, "reader")
            waits(endless(), "reader")
            pairs(bit("safe", 3))
            run(house, ahead)
        finally:
            sys.setrecursionlimit(least)


class ObjectsTest(Case):
    """[1.6]: objects of different classes, and objects and other values, are not equal"""

    def test_not_equal(self):
        objects = [bit().cells[0], bit().writer, bit().reader, bit(), run(bit(), []), Running(bit()),
                   Live(bit(), "safe"), BadPromise(), None, 0, "a", (), [], {}]
        for low, first in enumerate(objects):
            for high, second in enumerate(objects):
                if low != high:
                    self.assertFalse(first == second)
                    self.assertTrue(first != second)

    def test_equal_ones(self):
        self.assertEqual(bit(), read_house(house_text(bit())))
        self.assertNotEqual(bit(), bit("safe"))
        self.assertNotEqual(bit(), bit(start=1))


if __name__ == "__main__":
    unittest.main()
