"""The examples of section 14, as they stand there, and what the README says."""

import pathlib
import unittest

from cellsatonce.cells import Cell
from cellsatonce.errors import CellError
from cellsatonce.houses import House
from cellsatonce.kept import breaking, closed, closed_fault, inversion
from cellsatonce.limits import not_atomic
from cellsatonce.live import Live
from cellsatonce.programs import Program
from cellsatonce.runs import run
from cellsatonce.spare import least_programs, spare_statements
from cellsatonce.texts import house_text, read_house
from cellsatonce.waits import states, waits
from cellsatonce.weaker import lot_paper, paper_fault, weaker_lots
from cellsatonce.worths import pairs, renamed, told_by

GROUPS = (pathlib.Path(__file__).parent / "examples.txt").read_text().strip().split("\n\n")
PROMPT = ">>> "


def shown(error):
    """An error of the package as the examples show it."""
    values = ", ".join(repr(value) for value in vars(error).values())
    return f"raises {type(error).__name__}({values})"


def answer_of(line, names):
    """What a line of a session shows."""
    try:
        return repr(eval(line, names))
    except CellError as error:
        return shown(error)


class SectionTest(unittest.TestCase):
    """Section 14"""

    def test_each_group(self):
        names, made = {}, 0
        for group in GROUPS:
            lines = group.split("\n")
            prompts = [line[len(PROMPT):] for line in lines if line.startswith(PROMPT)]
            # One group makes the house of those behind it, and shows nothing.
            shows = len(prompts) < len(lines)
            for line in prompts[:-1] if shows else prompts:
                exec(line, names)
            if shows:
                with self.subTest(group=group):
                    self.assertEqual(answer_of(prompts[-1], names), lines[-1])
            made += not shows
        self.assertEqual((made, len(GROUPS)), (1, 26))


class ReadmeTest(unittest.TestCase):
    def setUp(self):
        self.writer = Program("writer", {}, [("write", "a", "new")])
        self.reader = Program("reader", {"x": (2, 0)}, [("get", "x", "a"), ("return", "x")])
        self.house = House([Cell("a", "regular", 2)], self.writer, self.reader)

    def test_the_run_of_ten_steps(self):
        # The second read tells the older value.
        found = run(self.house, breaking(self.house, "atomic")).history
        self.assertEqual(found, [("write", 1), ("read",), ("told", 1), ("read",), ("told", 0)])
        self.assertEqual(inversion(self.house), breaking(self.house, "atomic"))
        self.assertEqual(not_atomic(self.house), breaking(self.house, "atomic"))

    def test_kept_and_weaker(self):
        standings = closed(self.house, "regular")
        self.assertIsNone(closed_fault(self.house, "regular", standings))
        self.assertEqual(closed_fault(self.house, "regular", standings[1:]), ("first",))
        strong = self.house.with_kinds(["atomic"])
        self.assertEqual(weaker_lots(strong, "regular"), [("regular",)])
        paper = lot_paper(strong, "regular", ["regular"])
        self.assertIsNone(paper_fault(strong, "regular", ["regular"], paper))

    def test_spare_and_waits(self):
        twice = Program("writer", {}, [("write", "a", "new"), ("write", "a", "new")])
        wordy = self.house.with_programs(twice, self.reader)
        self.assertEqual(spare_statements(wordy, "regular"), [("writer", 0), ("writer", 1)])
        self.assertEqual(least_programs(wordy, "regular"), [((0,), (0, 1)), ((1,), (0, 1))])
        self.assertEqual(len(states(self.house)), 116)
        self.assertIsNone(waits(self.house, "reader"))
        self.assertIsNone(waits(self.house, "reader", alone=True))

    def test_worths_and_texts(self):
        self.assertEqual(told_by(self.house), [0, 1])
        self.assertEqual(pairs(self.house), [(0, 0), (0, 1), (1, 0), (1, 1)])
        self.assertEqual(renamed(self.house, {"a": "b"}).writer.block, (("write", "b", "new"),))
        self.assertEqual(read_house(house_text(self.house)), self.house)

    def test_live(self):
        live = Live(self.house, "atomic")
        self.assertEqual(live.step(("writer", "begin", 1)), ("write", 1))
        self.assertIsNone(live.step(("writer", "start", -1)))
        self.assertEqual(live.step(("reader", "begin", -1)), ("read",))
        self.assertEqual(live.tellable(), [0, 1])
        self.assertIs(live.kept(), True)
        self.assertEqual(live.standing()[1], (0, 1, 2, (0,)))
        self.assertEqual(list(live.events()), [("write", 1), ("read",)])
        live.promise = "safe"
        self.assertIs(live.rewatch("regular"), True)


if __name__ == "__main__":
    unittest.main()
