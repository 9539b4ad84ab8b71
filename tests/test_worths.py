import copy
import random
import unittest

from cellsatonce.cells import Cell
from cellsatonce.errors import BadCell, BadHouse, TooMany
from cellsatonce.houses import House
from cellsatonce.programs import Program
from cellsatonce.runs import Running, run
from cellsatonce.steps import initial, moves
from cellsatonce.worths import pairs, renamed, told_by
from helper import ODD_VALUES, Case
from small_houses import KINDS, big, bit, careful, either, empty, endless, near_house, random_house, scanned, two_bits


def told_steps(house, most):
    """All pairs of a state and the value told last, and the (pair, value) of what is told from them."""
    todo = [(initial(house), None)]
    known = set(todo)
    told = set()
    for state, last in todo:
        for (side, word, value), behind in moves(house, state):
            after = (behind, last)
            if (side, word) == ("reader", "end"):
                told.add((last, value))
                after = (behind, value)
            if after not in known and len(todo) <= most:
                known.add(after)
                todo.append(after)
    return todo, told


def told_in(steps):
    return [value for side, word, value in steps if (side, word) == ("reader", "end")]


def some_houses(many):
    for seed in range(many):
        source = random.Random(seed)
        yield near_house(source) if seed % 2 else random_house(source, most_cells=2, least=seed % 3)


class ToldByTest(Case):
    """[11.2] `told_by`"""

    def test_by_hand(self):
        self.assertEqual(told_by(bit()), [0, 1])
        self.assertEqual(told_by(bit("atomic", size=4)), [0, 1, 2, 3])
        self.assertEqual(told_by(scanned("safe", True)), [0, 1, 2])
        # A reader that ends without a return, whatever the start of the house is.
        self.assertEqual(told_by(empty(3, 2)), [0])
        house = empty(3)
        self.assertEqual(told_by(house.with_programs(house.writer, Program("reader", {}, [("return", 2)]))), [2])
        # What is told is taken modulo the size.
        self.assertEqual(told_by(empty().with_programs(empty().writer, Program("reader", {}, [("return", 3)]))), [1])

    def test_a_reader_that_never_ends(self):
        for kind in KINDS:
            self.assertEqual(told_by(endless(kind)), [])
            self.assertEqual(pairs(endless(kind)), [])

    def test_a_second_way(self):
        counted = 0
        for house in some_houses(250):
            nodes, told = told_steps(house, 600)
            if len(nodes) <= 600:
                counted += 1
                found = told_by(house)
                self.assertIs(type(found), list)
                self.assertEqual(found, sorted({value for _, value in told}))
        self.assertGreater(counted, 100)

    def test_limits_by_states(self):
        for house in [bit(), careful(), endless(), empty(), bit("safe", 3)]:
            many = len({state for state, _ in told_steps(house, 3000)[0]})
            found = told_by(house)
            self.assertEqual(told_by(house, limit=many), found)
            for limit in [1, many - 1]:
                self.raises(TooMany(limit), lambda: told_by(house, limit=limit))
        # Fewer states than pairs of a state and a value.
        self.assertEqual(told_by(bit(), limit=116), [0, 1])
        self.raises(TooMany(116), lambda: pairs(bit(), limit=116))
        self.raises(TooMany(3000), told_by, big())
        self.raises_for_limits(lambda *, limit: told_by(big(), limit=limit))
        self.raises_for_limits(lambda *, limit: told_by(empty(), limit=limit))

    def test_a_new_list_each_time(self):
        house = bit()
        told_by(house).clear()
        self.assertEqual(told_by(house), [0, 1])


class PairsTest(Case):
    """[11.2] `pairs`"""

    def test_by_hand(self):
        self.assertEqual(pairs(bit()), [(0, 0), (0, 1), (1, 0), (1, 1)])
        self.assertEqual(pairs(empty()), [(0, 0)])
        # A reader that tells 0 and 1 in turns.
        reader = Program("reader", {"x": (2, 1)}, [("set", "x", ("plus", "x", 1)), ("return", "x")])
        self.assertEqual(pairs(empty().with_programs(empty().writer, reader)), [(0, 1), (1, 0)])
        reader = Program("reader", {"x": (3, 2)}, [("set", "x", ("plus", "x", 1)), ("return", "x")])
        self.assertEqual(pairs(empty(3).with_programs(empty(3).writer, reader)), [(0, 1), (1, 2), (2, 0)])

    def test_a_value_that_is_told_once(self):
        # The first round tells 2, and all later ones 0.
        block = [("if", "x", 0, [("set", "x", 1), ("return", 2)], [])]
        house = empty(3).with_programs(empty(3).writer, Program("reader", {"x": (2, 0)}, block))
        self.assertEqual(told_by(house), [0, 2])
        self.assertEqual(pairs(house), [(0, 0), (2, 0)])
        # The first round is the only one that ends.
        block = [("if", "x", 0, [("set", "x", 1), ("return", 1)], []), ("while", "x", 1, [("get", "y", "a")])]
        house = House([Cell("a", "safe", 2)], empty().writer, Program("reader", {"x": (2, 0), "y": (2, 0)}, block))
        self.assertEqual(told_by(house), [1])
        self.assertEqual(pairs(house), [])

    def test_a_second_way(self):
        counted = 0
        for house in some_houses(250):
            nodes, told = told_steps(house, 600)
            if len(nodes) <= 600:
                counted += 1
                found = pairs(house)
                self.assertIs(type(found), list)
                self.assertEqual(found, sorted((last, value) for last, value in told if last is not None))
                self.assertEqual(pairs(house, limit=len(nodes)), found)
                if len(nodes) > 1:
                    self.raises(TooMany(len(nodes) - 1), lambda: pairs(house, limit=len(nodes) - 1))
        self.assertGreater(counted, 100)

    def test_what_a_run_tells_is_among_them(self):
        source = random.Random(4)
        for house in [bit("safe", 3), careful(), two_bits("safe", "atomic"), scanned("safe", True)]:
            values, found = told_by(house), pairs(house)
            running = Running(house)
            for _ in range(500):
                running.step(source.choice(running.choices()))
            told = told_in(running.record().steps)
            self.assertGreater(len(told), 10)
            for value in told:
                self.assertIn(value, values)
            for pair in zip(told, told[1:]):
                self.assertIn(pair, found)

    def test_limits(self):
        self.raises(TooMany(3000), pairs, big())
        self.raises_for_limits(lambda *, limit: pairs(big(), limit=limit))
        self.raises_for_limits(lambda *, limit: pairs(empty(), limit=limit))

    def test_a_new_list_each_time(self):
        house = bit()
        found = pairs(house)
        self.assertEqual([type(pair) for pair in found], [tuple] * 4)
        found.clear()
        self.assertEqual(len(pairs(house)), 4)


class RenamedTest(Case):
    """[11.3]"""

    def test_cells_and_programs(self):
        found = renamed(two_bits(), {"a": "first", "b": "x"})
        self.assertEqual(found.cells, (Cell("first", "regular", 2), Cell("x", "regular", 2)))
        self.assertEqual(found.writer, Program("writer", {}, [("write", "first", 0), ("write", "x", "new")]))
        # The local variable x keeps its name.
        self.assertEqual(found.reader, Program("reader", {"x": (2, 0)}, [
            ("get", "x", "first"), ("get", "x", "x"), ("return", "x")]))

    def test_local_variables_of_the_same_name(self):
        cells = [Cell("a", "safe", 3, 2, owner="reader"), Cell("b", "atomic", 2)]
        writer = Program("writer", {"a": (2, 0), "b": (3, 1)}, [
            ("if", "a", "b", [("get", "a", "a"), ("set", "b", ("plus", "a", 1))], [
                ("while", "b", "a", [("write", "b", "b"), ("write", "b", ("plus", "a", 1))])]),
        ])
        reader = Program("reader", {"a": (2, 0)}, [("write", "a", "a"), ("get", "a", "b"), ("return", "a")])
        found = renamed(House(cells, writer, reader, size=3, start=1), {"a": "c", "b": "new"})
        self.assertEqual(found, House(
            [Cell("c", "safe", 3, 2, owner="reader"), Cell("new", "atomic", 2)],
            Program("writer", {"a": (2, 0), "b": (3, 1)}, [
                ("if", "a", "b", [("get", "a", "c"), ("set", "b", ("plus", "a", 1))], [
                    ("while", "b", "a", [("write", "new", "b"), ("write", "new", ("plus", "a", 1))])]),
            ]),
            Program("reader", {"a": (2, 0)}, [("write", "c", "a"), ("get", "a", "new"), ("return", "a")]),
            size=3, start=1))

    def test_names_exchanged_and_kept(self):
        house = two_bits("safe", "atomic")
        found = renamed(house, {"a": "b", "b": "a"})
        self.assertEqual(found.cells, (Cell("b", "safe", 2), Cell("a", "atomic", 2)))
        self.assertEqual(found.writer.block, (("write", "b", 0), ("write", "a", "new")))
        self.assertNotEqual(found, house)
        self.assertEqual(renamed(found, {"a": "b", "b": "a"}), house)
        # The keys may stand in any order.
        self.assertEqual(renamed(house, {"b": "a", "a": "b"}), found)
        self.assertEqual(renamed(house, {"b": "b", "a": "a"}), house)

    def test_no_cells(self):
        self.assertEqual(renamed(empty(), {}), empty())
        self.raises(BadHouse("cells"), renamed, empty(), {"a": "b"})

    def test_same_moves_and_histories(self):
        for seed, house in enumerate(some_houses(120)):
            source = random.Random(seed)
            names = {cell.name: name for cell, name in zip(house.cells, ["b", "cell", "zz"])}
            other = renamed(house, names)
            self.assertEqual([cell.name for cell in other.cells], list(names.values()))
            state = initial(house)
            self.assertEqual(initial(other), state)
            running = Running(house)
            for _ in range(40):
                self.assertEqual(moves(house, state), moves(other, state))
                step, state = source.choice(moves(house, state))
                running.step(step)
            record = running.record()
            self.assertEqual(run(other, record.steps).history, record.history)
            self.assertEqual((other.size, other.start), (house.size, house.start))
            back = {new: old for old, new in names.items()}
            self.assertEqual(renamed(other, back), house)

    def test_the_arguments_stay(self):
        house = either("regular", "safe", "atomic")
        kept = copy.deepcopy(house)
        names = {"a": "d", "c": "a", "d": "c"}
        found = renamed(house, names)
        self.assertEqual(names, {"a": "d", "c": "a", "d": "c"})
        names.clear()
        self.assertEqual(house, kept)
        self.assertEqual(found.writer.block[0], ("get", "x", "a"))
        self.assertEqual(renamed(found, {"d": "a", "a": "c", "c": "d"}), house)

    def test_no_dict_of_the_cells(self):
        house = two_bits()
        wrong = ODD_VALUES + ["ab", ["a", "b"], [("a", "c"), ("b", "d")], {"a": "c"}, {"b": "c"},
                              {"a": "c", "b": "d", "c": "e"}, {"a": "c", "c": "d"}, {"a": "c", 0: "d"},
                              {("a",): "c", "b": "d"}, {"a": "c", None: "d"}, {"A": "c", "b": "d"}]
        for value in wrong:
            with self.subTest(names=str(value)[:40]):
                self.raises(BadHouse("cells"), renamed, house, value)
        # Ahead of wrong names.
        for value in [{"a": ""}, {"a": "c", "c": None}, {"a": 1, "b": 2, "c": 3}, {"a": "c", "c": "c"}]:
            self.raises(BadHouse("cells"), renamed, house, value)
        for value in ODD_VALUES:
            if value != {}:
                self.raises(BadHouse("cells"), renamed, empty(), value)

    def test_wrong_names(self):
        house = two_bits()
        for value in ODD_VALUES + ["a1", "abcdefghi", "a_b", "a-"]:
            with self.subTest(name=str(value)[:40]):
                self.raises(BadCell("name"), renamed, house, {"a": value, "b": "c"})
                self.raises(BadCell("name"), renamed, house, {"a": "c", "b": value})
                # Ahead of equal ones.
                self.raises(BadCell("name"), renamed, house, {"a": value, "b": value})
        self.assertIn("abcdefgh", renamed(house, {"a": "abcdefgh", "b": "c"}))

    def test_equal_names(self):
        house = two_bits()
        for name in ["a", "b", "c"]:
            self.raises(BadHouse("cells"), renamed, house, {"a": name, "b": name})
        self.raises(BadHouse("cells"), renamed, either("safe", "safe", "safe"), {"a": "x", "c": "y", "d": "x"})


if __name__ == "__main__":
    unittest.main()
