import itertools
import unittest

from cellsatonce.cells import Cell
from cellsatonce.errors import BadCell
from helper import ODD_VALUES, Case

KINDS = ["safe", "regular", "atomic"]


class CellTest(Case):
    """[3.1], [3.2]"""

    def test_every_cell_there_is(self):
        for kind, size, owner in itertools.product(KINDS, [2, 3, 4], ["writer", "reader"]):
            for start in range(size):
                with self.subTest(kind=kind, size=size, start=start, owner=owner):
                    cell = Cell("a", kind, size, start, owner=owner)
                    self.assertEqual(
                        [cell.name, cell.kind, cell.size, cell.start, cell.owner],
                        ["a", kind, size, start, owner])
                    self.assertEqual(cell.rank, KINDS.index(kind))

    def test_start_and_owner_if_not_given(self):
        cell = Cell("a", "safe", 3)
        self.assertEqual((cell.start, cell.owner), (0, "writer"))

    def test_names(self):
        for name in ["a", "z", "abcdefgh", "zzzzzzzz", "new", "writer", "safe", "if"]:
            self.assertEqual(Cell(name, "safe", 2).name, name)
        for name in ["", "abcdefghi", "A", "aB", "a1", "_a", "a ", " a", "a\n", "\u00e9", "\u00df", "a`", "a{"]:
            with self.subTest(name=name):
                self.raises(BadCell("name"), Cell, name, "safe", 2)

    def test_wrong_values_in_every_place(self):
        self.raises_for_odd(BadCell("name"), lambda value: Cell(value, "safe", 2))
        self.raises_for_odd(BadCell("kind"), lambda value: Cell("a", value, 2))
        self.raises_for_odd(BadCell("size"), lambda value: Cell("a", "safe", value))
        self.raises_for_odd(BadCell("start"), lambda value: Cell("a", "safe", 2, value))
        self.raises_for_odd(BadCell("owner"), lambda value: Cell("a", "safe", 2, owner=value))

    def test_the_edges_of_numbers(self):
        for size in [0, 1, 5, -2]:
            self.raises(BadCell("size"), Cell, "a", "safe", size)
        for size in [2, 3, 4]:
            self.raises(BadCell("start"), Cell, "a", "safe", size, size)
            self.raises(BadCell("start"), Cell, "a", "safe", size, -1)

    def test_words_of_other_places(self):
        self.raises(BadCell("kind"), Cell, "a", "none", 2)
        self.raises(BadCell("kind"), Cell, "a", "writer", 2)
        self.raises(BadCell("owner"), Cell, "a", "safe", 2, owner="safe")
        self.raises(BadCell("owner"), Cell, "a", "safe", 2, owner="both")

    def test_the_first_wrong_part_is_told(self):
        right = ["a", "safe", 2, 0, "writer"]
        wrong = ["A", "weak", 5, 4, "me"]
        parts = ["name", "kind", "size", "start", "owner"]
        for chosen in itertools.product([False, True], repeat=5):
            if any(chosen):
                name, kind, size, start, owner = [
                    bad if use else good for good, bad, use in zip(right, wrong, chosen)]
                with self.subTest(chosen=chosen):
                    self.raises(BadCell(parts[chosen.index(True)]), Cell, name, kind, size, start, owner=owner)

    def test_owner_is_passed_by_keyword(self):
        with self.assertRaises(TypeError):
            Cell("a", "safe", 2, 0, "reader")

    def test_the_attributes_are_set_on_the_object(self):
        cell = Cell("a", "safe", 2)
        for name in ["name", "kind", "size", "start", "owner"]:
            self.assertIn(name, vars(cell))
        self.assertIsInstance(vars(Cell)["rank"], property)

    def test_example_of_a_wrong_size(self):
        self.raises(BadCell("size"), Cell, "a", "atomic", 5)


class EqualityTest(Case):
    """[3.2], [1.6]"""

    def test_equal_if_all_five_are(self):
        first = Cell("a", "regular", 3, 1, owner="reader")
        self.assertTrue(first == Cell("a", "regular", 3, 1, owner="reader"))
        self.assertFalse(first != Cell("a", "regular", 3, 1, owner="reader"))
        others = [
            Cell("b", "regular", 3, 1, owner="reader"),
            Cell("a", "safe", 3, 1, owner="reader"),
            Cell("a", "regular", 4, 1, owner="reader"),
            Cell("a", "regular", 3, 2, owner="reader"),
            Cell("a", "regular", 3, 1, owner="writer"),
        ]
        for k, other in enumerate(others):
            with self.subTest(k=k):
                self.assertFalse(first == other)
                self.assertTrue(first != other)

    def test_no_other_value_is_equal(self):
        cell = Cell("a", "safe", 2)
        for value in ODD_VALUES + ["a", ("a", "safe", 2, 0, "writer"), vars(cell)]:
            self.assertFalse(cell == value)
            self.assertFalse(value == cell)
            self.assertTrue(cell != value)


class KindsTest(Case):
    """[3.2]"""

    def test_with_kind(self):
        for kind, other in itertools.product(KINDS, KINDS):
            cell = Cell("abc", kind, 4, 3, owner="reader")
            changed = cell.with_kind(other)
            self.assertIsInstance(changed, Cell)
            self.assertEqual(changed, Cell("abc", other, 4, 3, owner="reader"))
            self.assertEqual(cell, Cell("abc", kind, 4, 3, owner="reader"))

    def test_with_a_wrong_kind(self):
        cell = Cell("a", "regular", 2)
        self.raises_for_odd(BadCell("kind"), cell.with_kind)
        for kind in ["weak", "none", "atomic ", "Atomic", "writer", 0, 1, 2, ["safe"], ("safe",)]:
            self.raises(BadCell("kind"), cell.with_kind, kind)
        self.assertEqual(cell, Cell("a", "regular", 2))

    def test_weaker_than_by_rank(self):
        for kind, other in itertools.product(KINDS, KINDS):
            with self.subTest(kind=kind, other=other):
                answer = Cell("a", kind, 2).weaker_than(Cell("a", other, 2))
                self.assertIs(answer, KINDS.index(kind) < KINDS.index(other))

    def test_weaker_than_if_anything_else_differs(self):
        cell = Cell("a", "safe", 3, 1, owner="writer")
        self.assertIs(cell.weaker_than(Cell("a", "atomic", 3, 1, owner="writer")), True)
        self.assertIs(cell.weaker_than(Cell("b", "atomic", 3, 1, owner="writer")), False)
        self.assertIs(cell.weaker_than(Cell("a", "atomic", 4, 1, owner="writer")), False)
        self.assertIs(cell.weaker_than(Cell("a", "atomic", 3, 2, owner="writer")), False)
        self.assertIs(cell.weaker_than(Cell("a", "atomic", 3, 1, owner="reader")), False)

    def test_example(self):
        self.assertEqual(
            [Cell("a", "regular", 2).rank, Cell("a", "safe", 2).weaker_than(Cell("a", "regular", 2))],
            [1, True])


if __name__ == "__main__":
    unittest.main()
