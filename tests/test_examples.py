"""The examples of section 14, and the first lines of the README for each module."""

import unittest

from cellsatonce.cells import Cell
from cellsatonce.houses import House
from cellsatonce.kept import breaking, closed, closed_fault, inversion, strongest
from cellsatonce.programs import Program
from cellsatonce.runs import run
from cellsatonce.spare import least_programs, spare_statements
from cellsatonce.waits import longest, states, waits
from cellsatonce.weaker import lot_paper, paper_fault, weaker_lots


class ExamplesTest(unittest.TestCase):
    def setUp(self):
        self.writer = Program("writer", {}, [("write", "a", "new")])
        self.reader = Program("reader", {"x": (2, 0)}, [("get", "x", "a"), ("return", "x")])
        self.house = House([Cell("a", "regular", 2)], self.writer, self.reader)

    def test_kept(self):
        self.assertIsNone(breaking(self.house, "regular"))
        self.assertEqual(len(breaking(self.house, "atomic")), 10)
        self.assertEqual(strongest(self.house), "regular")

    def test_the_run_of_ten_steps(self):
        # The second read tells the older value.
        found = run(self.house, breaking(self.house, "atomic")).history
        self.assertEqual(found, [("write", 1), ("read",), ("told", 1), ("read",), ("told", 0)])
        self.assertEqual(inversion(self.house), breaking(self.house, "atomic"))

    def test_weaker(self):
        self.assertEqual(weaker_lots(self.house, "safe"), [("safe",)])

    def test_spare(self):
        self.assertEqual(spare_statements(self.house, "regular"), [])

    def test_waits(self):
        self.assertEqual([longest(self.house, "writer"), longest(self.house, "reader")], [2, 2])

    def test_readme(self):
        standings = closed(self.house, "regular")
        self.assertIsNone(closed_fault(self.house, "regular", standings))
        self.assertEqual(closed_fault(self.house, "regular", standings[1:]), ("first",))
        strong = self.house.with_kinds(["atomic"])
        self.assertEqual(weaker_lots(strong, "regular"), [("regular",)])
        paper = lot_paper(strong, "regular", ["regular"])
        self.assertIsNone(paper_fault(strong, "regular", ["regular"], paper))
        twice = Program("writer", {}, [("write", "a", "new"), ("write", "a", "new")])
        wordy = self.house.with_programs(twice, self.reader)
        self.assertEqual(spare_statements(wordy, "regular"), [("writer", 0), ("writer", 1)])
        self.assertEqual(least_programs(wordy, "regular"), [((0,), (0, 1)), ((1,), (0, 1))])
        self.assertEqual(len(states(self.house)), 116)
        self.assertIsNone(waits(self.house, "reader"))
        self.assertIsNone(waits(self.house, "reader", alone=True))


if __name__ == "__main__":
    unittest.main()
