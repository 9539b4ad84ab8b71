import itertools
import unittest

from cellsatonce.cells import Cell
from cellsatonce.errors import BadHouse
from cellsatonce.houses import House
from cellsatonce.programs import Program
from cellsatonce.runs import Running
from helper import ODD_VALUES, Case
from small_houses import KINDS, bit

# The writer's cells are a and b, the reader's is c.
CELLS = [Cell("a", "safe", 2), Cell("b", "regular", 3, 1), Cell("c", "atomic", 4, 2, owner="reader")]
STORE = {"x": (2, 0)}


def writer(*block):
    return Program("writer", STORE, list(block))


def reader(*block):
    return Program("reader", STORE, list(block))


WRITER = writer(("write", "a", "new"), ("write", "b", 1), ("get", "x", "c"))
READER = reader(("get", "x", "a"), ("get", "x", "b"), ("write", "c", 1), ("return", "x"))
EMPTY_WRITER = Program("writer", {}, [])
EMPTY_READER = Program("reader", {}, [])


def whole():
    return House(CELLS, WRITER, READER, size=3, start=2)


class HouseCase(Case):
    def bad(self, why, *args, **kwargs):
        self.raises(BadHouse(why), House, *args, **kwargs)


class AttributesTest(HouseCase):
    """[3.12], [3.13]"""

    def test_attributes(self):
        house = whole()
        self.assertEqual(house.cells, tuple(CELLS))
        self.assertIs(type(house.cells), tuple)
        self.assertEqual((house.writer, house.reader), (WRITER, READER))
        self.assertEqual((house.size, house.start), (3, 2))
        for name in ["cells", "writer", "reader", "size", "start"]:
            self.assertIn(name, vars(house))

    def test_size_and_start_if_left_out(self):
        house = House(CELLS, WRITER, READER)
        self.assertEqual((house.size, house.start), (2, 0))
        house = House(CELLS, WRITER, READER, size=4)
        self.assertEqual((house.size, house.start), (4, 0))
        house = House(CELLS, WRITER, READER, start=1)
        self.assertEqual((house.size, house.start), (2, 1))

    def test_size_and_start_are_passed_by_keyword(self):
        with self.assertRaises(TypeError):
            House(CELLS, WRITER, READER, 2)

    def test_every_size_and_start(self):
        for size in [2, 3, 4]:
            for start in range(size):
                house = House(CELLS, WRITER, READER, size=size, start=start)
                self.assertEqual((house.size, house.start), (size, start))

    def test_cells_as_a_list_and_as_a_tuple_in_their_order(self):
        for cells in itertools.permutations(CELLS):
            for row in [list, tuple]:
                house = House(row(cells), WRITER, READER)
                self.assertEqual([cell.name for cell in house.cells], [cell.name for cell in cells])

    def test_from_no_cell_to_four(self):
        cells = [Cell(name, "safe", 2) for name in ["d", "a", "c", "b"]]
        for many in range(5):
            self.assertEqual(len(House(cells[:many], EMPTY_WRITER, EMPTY_READER).cells), many)

    def test_a_list_that_is_changed_later_changes_no_house(self):
        cells = list(CELLS)
        house = House(cells, WRITER, READER)
        cells.reverse()
        cells.pop()
        self.assertEqual(house.cells, tuple(CELLS))
        self.assertTrue(house == House(CELLS, WRITER, READER))


class CellsTest(HouseCase):
    """[3.12], the cells"""

    def test_what_is_no_row_of_cells(self):
        for value in ODD_VALUES:
            with self.subTest(value=str(value)[:40]):
                if value not in ([], ()):
                    self.bad("cells", value, EMPTY_WRITER, EMPTY_READER)
                for row in [tuple, list]:
                    self.bad("cells", row([value]), EMPTY_WRITER, EMPTY_READER)
                    self.bad("cells", row(CELLS + [value]), WRITER, READER)
                    self.bad("cells", row([value] + CELLS), WRITER, READER)

    def test_dicts_and_strings_are_no_rows(self):
        self.bad("cells", {"a": 1}, EMPTY_WRITER, EMPTY_READER)
        self.bad("cells", {}, EMPTY_WRITER, EMPTY_READER)
        self.bad("cells", "", EMPTY_WRITER, EMPTY_READER)

    def test_things_that_are_no_cells(self):
        for value in [EMPTY_WRITER, bit(), "a", ("a", "safe", 2, 0, "writer"), [CELLS[0]], Cell]:
            with self.assertRaises(BadHouse) as caught:
                House([value], EMPTY_WRITER, EMPTY_READER)
            self.assertEqual(caught.exception.why, "cells")

    def test_a_fifth_cell(self):
        for many in range(5, 9):
            cells = [Cell("abcdefghi"[k], "safe", 2) for k in range(many)]
            self.bad("cells", cells, EMPTY_WRITER, EMPTY_READER)
            self.bad("cells", tuple(cells), EMPTY_WRITER, EMPTY_READER)

    def test_a_name_twice(self):
        others = [
            CELLS[0], Cell("a", "safe", 2), Cell("a", "atomic", 2), Cell("a", "safe", 3),
            Cell("a", "safe", 2, 1), Cell("a", "safe", 2, owner="reader")]
        for other in others:
            self.bad("cells", [CELLS[0], other], EMPTY_WRITER, EMPTY_READER)
            self.bad("cells", CELLS + [other], WRITER, READER)
            self.bad("cells", [other] + CELLS, WRITER, READER)


class ProgramsTest(HouseCase):
    """[3.12], the programs"""

    def bad_writer(self, program, cells=CELLS):
        self.bad("writer", cells, program, READER)
        self.bad("writer", tuple(cells), program, None, size=0, start=-1)
        self.raises(BadHouse("writer"), whole().with_programs, program, READER)
        self.raises(BadHouse("writer"), whole().with_programs, program, None)

    def bad_reader(self, program, cells=CELLS):
        self.bad("reader", cells, WRITER, program)
        self.bad("reader", tuple(cells), WRITER, program, size=0, start=-1)
        self.raises(BadHouse("reader"), whole().with_programs, WRITER, program)

    def test_what_is_no_program(self):
        for value in ODD_VALUES + ["writer", "reader", ("writer", {}, []), CELLS[0]]:
            with self.subTest(value=str(value)[:40]):
                self.bad_writer(value)
                self.bad_reader(value)

    def test_a_program_of_the_other_side(self):
        self.bad_writer(READER)
        self.bad_writer(EMPTY_READER)
        self.bad_reader(WRITER)
        self.bad_reader(EMPTY_WRITER)

    def test_programs_without_statements(self):
        for cells in [[], CELLS]:
            house = House(cells, EMPTY_WRITER, EMPTY_READER)
            self.assertEqual((house.writer.count, house.reader.count), (0, 0))

    def test_a_cell_that_is_not_there(self):
        for name in ["d", "x", "new", "aa", "writer"]:
            self.bad_writer(writer(("get", "x", name)))
            self.bad_writer(writer(("write", name, 0)))
            self.bad_reader(reader(("get", "x", name)))
            self.bad_reader(reader(("write", name, 0)))

    def test_a_write_to_a_cell_of_the_other_side(self):
        self.bad_writer(writer(("write", "c", 0)))
        self.bad_reader(reader(("write", "a", 0)))
        self.bad_reader(reader(("write", "b", 0)))

    def test_each_side_may_get_every_cell(self):
        for name in ["a", "b", "c"]:
            House(CELLS, writer(("get", "x", name)), EMPTY_READER)
            House(CELLS, EMPTY_WRITER, reader(("get", "x", name)))

    def test_a_wrong_statement_anywhere(self):
        get = ("get", "x", "a")
        for wrong in [("get", "x", "d"), ("write", "d", 0)]:
            blocks = [
                [get, wrong],
                [("if", "x", 0, [get, wrong], [])],
                [("if", "x", 0, [], [get, wrong])],
                [("while", "x", 0, [get, wrong])],
                [("while", "x", 0, [("if", "x", 1, [], [("while", "x", 0, [get, wrong])]), get])],
            ]
            for block in blocks:
                self.bad_writer(writer(*block))
                self.bad_reader(reader(*block))

    def test_local_variables_are_no_cells(self):
        # A cell and a variable may have the same name; a term names a variable alone.
        store = {"a": (2, 0), "z": (2, 0)}
        block = [("get", "a", "a"), ("set", "z", "a"), ("if", "z", "z", [], [])]
        House(CELLS, Program("writer", store, block + [("write", "a", "a")]), EMPTY_READER)
        House(CELLS, EMPTY_WRITER, Program("reader", store, block + [("return", ("plus", "z", 1))]))


class SettingsTest(HouseCase):
    """[3.12], size and start and the order"""

    def test_wrong_sizes_and_starts(self):
        self.raises_for_odd(BadHouse("size"), lambda value: House(CELLS, WRITER, READER, size=value))
        self.raises_for_odd(BadHouse("size"), lambda value: House(CELLS, WRITER, READER, size=value, start=-1))
        self.raises_for_odd(BadHouse("start"), lambda value: House(CELLS, WRITER, READER, start=value))
        for size in [0, 1, 5]:
            self.bad("size", CELLS, WRITER, READER, size=size)
        for size in [2, 3, 4]:
            for start in [-1, size, size + 1]:
                self.bad("start", CELLS, WRITER, READER, size=size, start=start)
        self.bad("start", CELLS, WRITER, READER, start=2)

    def test_the_first_wrong_part_is_told(self):
        right = [CELLS, WRITER, READER, 2, 0]
        wrongs = [[CELLS + CELLS, READER, WRITER, 5, 7], [None, None, None, None, None]]
        parts = ["cells", "writer", "reader", "size", "start"]
        for wrong in wrongs:
            for chosen in itertools.product([False, True], repeat=5):
                if any(chosen):
                    cells, first, second, size, start = [
                        bad if use else good for good, bad, use in zip(right, wrong, chosen)]
                    with self.subTest(chosen=chosen):
                        self.bad(parts[chosen.index(True)], cells, first, second, size=size, start=start)


class NamesTest(HouseCase):
    """[3.13] `name in house` and `cell`"""

    def test_names_in_the_house(self):
        house = whole()
        for name in ["a", "b", "c"]:
            self.assertIs(name in house, True)
            self.assertIs(name not in house, False)
        for name in ["d", "x", "aa", "writer", "safe", "new"]:
            self.assertIs(name in house, False)
        self.assertIs("a" in House([], EMPTY_WRITER, EMPTY_READER), False)

    def test_what_is_no_name_is_not_in_the_house(self):
        house = whole()
        for value in ODD_VALUES + [CELLS[0], WRITER, house, ["a"], ("a",), {"a": "a"}]:
            self.assertIs(value in house, False)

    def test_cell(self):
        house = whole()
        for cell in CELLS:
            self.assertEqual(house.cell(cell.name), cell)
            self.assertIsInstance(house.cell(cell.name), Cell)

    def test_a_cell_that_is_not_there(self):
        house = whole()
        for name in ["d", "x", "aa", "writer", ["a"], ("a",), {"a": "a"}]:
            self.raises(BadHouse("cells"), house.cell, name)
        self.raises_for_odd(BadHouse("cells"), house.cell)
        self.raises(BadHouse("cells"), House([], EMPTY_WRITER, EMPTY_READER).cell, "a")
        self.assertEqual(house, whole())


class ChangedHousesTest(HouseCase):
    """[3.13] `with_kinds` and `with_programs`"""

    def test_with_kinds(self):
        for kinds in itertools.product(KINDS, KINDS, KINDS):
            for row in [tuple, list]:
                house = whole()
                changed = house.with_kinds(row(kinds))
                cells = [cell.with_kind(kind) for cell, kind in zip(CELLS, kinds)]
                self.assertEqual(changed, House(cells, WRITER, READER, size=3, start=2))
                self.assertEqual(tuple(cell.kind for cell in changed.cells), kinds)
                self.assertEqual(house, whole())

    def test_with_no_kinds_for_no_cells(self):
        house = House([], EMPTY_WRITER, EMPTY_READER, size=3)
        self.assertEqual(house.with_kinds([]), house)
        self.assertEqual(house.with_kinds(()), house)
        self.raises(BadHouse("cells"), house.with_kinds, ["safe"])

    def test_with_a_row_of_another_length(self):
        house = whole()
        for many in [0, 1, 2, 4, 5]:
            self.raises(BadHouse("cells"), house.with_kinds, ["safe"] * many)
            self.raises(BadHouse("cells"), house.with_kinds, ("safe",) * many)

    def test_with_things_that_are_no_kinds(self):
        house = whole()
        for value in ODD_VALUES + ["weak", "writer", "none", 0, 1, 2, ["safe"], ("safe",), Cell("a", "safe", 2)]:
            for at in range(3):
                kinds = ["safe", "regular", "atomic"]
                kinds[at] = value
                self.raises(BadHouse("cells"), house.with_kinds, kinds)
                self.raises(BadHouse("cells"), house.with_kinds, tuple(kinds))
        self.assertEqual(house, whole())

    def test_with_what_is_no_row_of_kinds(self):
        house = whole()
        self.raises_for_odd(BadHouse("cells"), house.with_kinds)
        kinds = {"safe": "safe", "regular": "regular", "atomic": "atomic"}
        for value in ["safe", "abc", kinds, 3]:
            self.raises(BadHouse("cells"), house.with_kinds, value)
        alone = bit()
        self.raises(BadHouse("cells"), alone.with_kinds, "safe")
        self.raises(BadHouse("cells"), alone.with_kinds, {"safe": "safe"})

    def test_with_programs(self):
        house = whole()
        first = writer(("write", "b", 2))
        second = reader(("get", "x", "c"))
        changed = house.with_programs(first, second)
        self.assertEqual(changed, House(CELLS, first, second, size=3, start=2))
        self.assertEqual(house, whole())

    def test_with_wrong_programs(self):
        house = whole()
        self.raises(BadHouse("writer"), house.with_programs, None, None)
        self.raises(BadHouse("writer"), house.with_programs, READER, WRITER)
        self.raises(BadHouse("reader"), house.with_programs, WRITER, WRITER)
        self.raises(BadHouse("reader"), house.with_programs, WRITER, reader(("write", "a", 0)))
        self.assertEqual(house, whole())

    def test_a_changed_house_is_followed_by_its_own_programs(self):
        # What the house has made ready of its programs is made anew, too.
        running = Running(bit().with_kinds(["atomic"]))
        running.step(("reader", "begin", -1))
        self.assertEqual(running.choices()[-1], ("reader", "once", 0))
        other = bit().with_programs(bit().writer, Program("reader", {}, [("return", 1)]))
        running = Running(other)
        running.step(("reader", "begin", -1))
        self.assertEqual(running.choices()[-1], ("reader", "end", 1))


class EqualityTest(HouseCase):
    """[3.13], [1.6]"""

    def test_equal_if_all_five_are(self):
        self.assertTrue(whole() == whole())
        self.assertFalse(whole() != whole())
        self.assertTrue(House(tuple(CELLS), WRITER, READER, size=3, start=2) == whole())
        others = [
            House(CELLS[::-1], WRITER, READER, size=3, start=2),
            House(CELLS + [Cell("d", "safe", 2)], WRITER, READER, size=3, start=2),
            House([CELLS[0].with_kind("atomic")] + CELLS[1:], WRITER, READER, size=3, start=2),
            House(CELLS, writer(), READER, size=3, start=2),
            House(CELLS, WRITER, reader(), size=3, start=2),
            House(CELLS, WRITER, READER, size=4, start=2),
            House(CELLS, WRITER, READER, size=3, start=1),
        ]
        for k, other in enumerate(others):
            with self.subTest(k=k):
                self.assertFalse(whole() == other)
                self.assertFalse(other == whole())
                self.assertTrue(whole() != other)
        for first, second in itertools.combinations(others, 2):
            self.assertFalse(first == second)

    def test_no_other_value_is_equal(self):
        house = whole()
        others = ODD_VALUES + [
            tuple(CELLS), (tuple(CELLS), WRITER, READER, 3, 2), vars(house), CELLS[0], WRITER, READER]
        for value in others:
            self.assertFalse(house == value)
            self.assertFalse(value == house)
            self.assertTrue(house != value)


if __name__ == "__main__":
    unittest.main()
