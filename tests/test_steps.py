import itertools
import random
import unittest

from cellsatonce.cells import Cell
from cellsatonce.houses import House
from cellsatonce.programs import Program
from cellsatonce.runs import run
from cellsatonce.steps import event_of, initial, moves
from helper import Case
from second import Twin
from small_houses import KINDS, bit, empty, random_house, read_alone, write_alone

BEGIN = ("reader", "begin", -1)
START = ("reader", "start", -1)
GET_A = ("get", "x", "a")


def after(house, *steps):
    """The state behind these steps."""
    return run(house, list(steps)).state


def steps_in(house, state):
    return [step for step, _ in moves(house, state)]


def behind(house, state, step):
    """The state behind one more step."""
    return dict(moves(house, state))[step]


def finish(side, value=-1):
    return (side, "finish", value)


def told(store, block, *, size=4):
    """What a reader without gets and writes tells in its first round."""
    house = read_alone(store, block, size=size)
    return behind(house, initial(house), BEGIN)[1]


def news(store, block, new, *, size=4):
    """The values of the writer's variables behind the begin of a round without gets and writes."""
    house = write_alone(store, block, size=size)
    return behind(house, initial(house), ("writer", "begin", new))[0][2]


class FirstStateTest(Case):
    """[4.1], [4.8] `initial`"""

    def test_example(self):
        self.assertEqual(initial(bit()), ((0, -1, (), -1), (0, -1, (0,), -1), ((0, -1, ()),)))

    def test_all_at_their_starts(self):
        cells = [Cell("c", "safe", 4, 3), Cell("a", "atomic", 3, 2, owner="reader"), Cell("b", "regular", 2, 1)]
        writer = Program("writer", {"z": (4, 3), "a": (2, 1), "m": (3, 0)}, [("write", "c", "new")])
        reader = Program("reader", {"y": (2, 0), "b": (3, 2)}, [])
        house = House(cells, writer, reader, size=3, start=2)
        # The cells stand in their order, the variables by their names.
        self.assertEqual(
            initial(house),
            ((0, -1, (1, 0, 3), -1), (0, -1, (2, 0), -1), ((3, -1, ()), (2, -1, ()), (1, -1, ()))))

    def test_no_cell_and_no_statement(self):
        self.assertEqual(initial(empty()), ((0, -1, (), -1), (0, -1, (), -1), ()))


class BeginTest(Case):
    """[4.2], [4.8]"""

    def test_begins_by_value_and_then_the_readers(self):
        for size in [2, 3, 4]:
            for house in [empty(size), bit(size=size)]:
                expected = [("writer", "begin", value) for value in range(size)] + [BEGIN]
                self.assertEqual(steps_in(house, initial(house)), expected)

    def test_programs_of_no_statement(self):
        house = empty(3)
        self.assertEqual(after(house, ("writer", "begin", 2)), ((3, -1, (), 2), (0, -1, (), -1), ()))
        self.assertEqual(after(house, BEGIN), ((0, -1, (), -1), (3, -1, (), 0), ()))
        both = [BEGIN, ("writer", "begin", 1)]
        self.assertEqual(after(house, *both), ((3, -1, (), 1), (3, -1, (), 0), ()))
        self.assertEqual(steps_in(house, after(house, *both)), [("writer", "end", -1), ("reader", "end", 0)])
        ended = after(house, *both, ("reader", "end", 0), ("writer", "end", -1))
        self.assertEqual(ended, initial(house))

    def test_the_new_value_is_kept_up_to_the_end(self):
        house = write_alone({}, [("write", "a", 0)], cells=[Cell("a", "safe", 2)], size=4)
        steps = [("writer", "begin", 3), ("writer", "start", -1), finish("writer"), ("writer", "end", -1)]
        parts = [after(house, *steps[:many])[0] for many in range(5)]
        self.assertEqual(
            parts, [(0, -1, (), -1), (1, 0, (), 3), (2, 0, (), 3), (3, -1, (), 3), (0, -1, (), -1)])

    def test_the_told_value_is_there_in_phase_three_alone(self):
        house = read_alone({"x": (2, 0)}, [GET_A, ("return", 1)], cells=[Cell("a", "safe", 2)])
        steps = [BEGIN, START, finish("reader", 0), ("reader", "end", 1)]
        parts = [after(house, *steps[:many])[1] for many in range(5)]
        self.assertEqual(
            parts, [(0, -1, (0,), -1), (1, 0, (0,), -1), (2, 0, (0,), -1), (3, -1, (0,), 1), (0, -1, (0,), -1)])

    def test_the_value_of_an_end(self):
        for value in range(4):
            house = read_alone({}, [("return", value)], size=4)
            self.assertEqual(steps_in(house, after(house, BEGIN))[-1], ("reader", "end", value))
            self.assertEqual(steps_in(house, after(house, ("writer", "begin", value)))[0], ("writer", "end", -1))


class StatementsTest(Case):
    """[3.4], [4.3]: what makes no step"""

    def test_set_and_the_terms(self):
        store = {"x": (4, 3), "y": (3, 2)}
        expected = {
            0: 0, 1: 1, 3: 3, "x": 3, "y": 2,
            ("plus", "x", 0): 3, ("plus", "x", 1): 0, ("plus", "x", 3): 2,
            ("plus", "y", 0): 2, ("plus", "y", 1): 0, ("plus", "y", 2): 1, ("plus", "y", 3): 2,
        }
        for term, value in expected.items():
            with self.subTest(term=term):
                self.assertEqual(told(store, [("return", term)]), (3, -1, (3, 2), value))
                self.assertEqual(told(store, [("set", "x", term)]), (3, -1, (value, 2), 0))

    def test_what_is_stored_is_taken_modulo(self):
        # A set by the size of the variable, a return by the size of the house.
        for size, value in itertools.product([2, 3, 4], range(4)):
            self.assertEqual(told({"x": (size, 0)}, [("set", "x", value)]), (3, -1, (value % size,), 0))
            self.assertEqual(told({}, [("return", value)], size=size), (3, -1, (), value % size))
        self.assertEqual(told({"x": (4, 3)}, [("return", "x")], size=2), (3, -1, (3,), 1))
        self.assertEqual(told({"x": (4, 2)}, [("return", ("plus", "x", 1))], size=3), (3, -1, (2,), 0))
        # The sum of a term is taken by the size of its variable first.
        self.assertEqual(told({"x": (3, 2)}, [("return", ("plus", "x", 1))], size=2), (3, -1, (2,), 0))
        self.assertEqual(told({"x": (2, 1), "y": (4, 0)}, [("set", "y", ("plus", "x", 2))]), (3, -1, (1, 1), 0))

    def test_new(self):
        for new in range(4):
            self.assertEqual(news({"x": (4, 0)}, [("set", "x", "new")], new), (new,))
            self.assertEqual(news({"x": (2, 0)}, [("set", "x", "new")], new), (new % 2,))
            block = [("if", "x", "new", [("set", "y", 1)], [("set", "y", 2)])]
            self.assertEqual(news({"x": (4, 3), "y": (3, 0)}, block, new), (3, 1 if new == 3 else 2))

    def test_statements_are_followed_in_their_order(self):
        block = [("set", "x", 1), ("set", "y", "x"), ("set", "x", ("plus", "y", 1)), ("return", "x")]
        self.assertEqual(told({"x": (4, 0), "y": (4, 3)}, block), (3, -1, (2, 1), 2))

    def test_if(self):
        for value, term in itertools.product(range(3), [0, 1, 2, 3, "y", ("plus", "y", 1)]):
            block = [("if", "x", term, [("set", "z", 1)], [("set", "z", 2)]), ("set", "w", 1)]
            worth = {"y": 1, ("plus", "y", 1): 2}.get(term, term)
            with self.subTest(value=value, term=term):
                store = {"w": (2, 0), "x": (3, value), "y": (3, 1), "z": (3, 0)}
                expected = (1, value, 1, 1 if value == worth else 2)
                self.assertEqual(told(store, block), (3, -1, expected, 0))

    def test_empty_blocks_of_an_if(self):
        for value in range(2):
            store = {"x": (2, value), "z": (4, 0)}
            for yes, no in [([], [("set", "z", 2)]), ([("set", "z", 3)], []), ([], [])]:
                block = [("if", "x", 1, yes, no), ("set", "z", ("plus", "z", 1))]
                chosen = yes if value == 1 else no
                expected = (chosen[0][2] + 1) % 4 if chosen else 1
                self.assertEqual(told(store, block), (3, -1, (value, expected), 0))

    def test_comparisons_take_the_values_as_they_are(self):
        # 3 is not 1, though both are the same modulo the size of x.
        block = [("if", "x", 3, [("return", 1)], [("return", 2)])]
        self.assertEqual(told({"x": (2, 1)}, block)[3], 2)
        block = [("if", "x", "y", [("return", 1)], [("return", 2)])]
        self.assertEqual(told({"x": (2, 1), "y": (4, 3)}, block)[3], 2)
        self.assertEqual(told({"x": (4, 3), "y": (2, 1)}, block)[3], 2)
        block = [("if", "x", ("plus", "y", 1), [("return", 1)], [("return", 2)])]
        self.assertEqual(told({"x": (4, 0), "y": (2, 1)}, block)[3], 1)
        self.assertEqual(told({"x": (4, 2), "y": (2, 1)}, block)[3], 2)
        block = [("while", "x", 3, [("return", 1)]), ("return", 2)]
        self.assertEqual(told({"x": (2, 1)}, block)[3], 2)
        house = write_alone({"x": (2, 1)}, [("if", "x", "new", [("set", "x", 0)], [])], size=4)
        self.assertEqual(after(house, ("writer", "begin", 3))[0][2], (1,))

    def test_nested_ifs(self):
        def block(at):
            return [("return", at)]
        nested = [("if", "x", 0,
                   [("if", "y", 0, block(0), [("if", "z", 1, block(1), [])])],
                   [("if", "y", 1, [("if", "z", 0, [], block(2))], block(3))])]
        for x, y, z in itertools.product(range(2), repeat=3):
            expected = {(0, 0): 0, (0, 1): z, (1, 0): 3, (1, 1): 2 * z}[x, y]
            with self.subTest(x=x, y=y, z=z):
                store = {"x": (2, x), "y": (2, y), "z": (2, z)}
                self.assertEqual(told(store, nested), (3, -1, (x, y, z), expected))

    def test_what_stands_behind_nested_blocks_is_followed(self):
        block = [("if", "x", 0, [("if", "x", 0, [("set", "y", 1)], []), ("set", "y", ("plus", "y", 1))], []),
                 ("return", ("plus", "y", 1))]
        self.assertEqual(told({"x": (2, 0), "y": (4, 0)}, block), (3, -1, (0, 2), 3))

    def test_return_ends_the_round_at_once(self):
        block = [("if", "x", 0, [("set", "x", 1), ("return", "x")], []), ("set", "x", 0), ("return", 3)]
        self.assertEqual(told({"x": (2, 0)}, block), (3, -1, (1,), 1))
        self.assertEqual(told({"x": (2, 1)}, block), (3, -1, (0,), 3))

    def test_a_block_without_a_return_tells_0(self):
        self.assertEqual(told({"x": (4, 3)}, []), (3, -1, (3,), 0))
        self.assertEqual(told({"x": (4, 3)}, [("if", "x", 0, [("return", 1)], [])]), (3, -1, (3,), 0))
        self.assertEqual(told({"x": (4, 3)}, [("while", "x", 3, [("return", 0)])]), (3, -1, (3,), 0))

    def test_a_while_with_a_return_in_it(self):
        block = [("while", "x", 0, [("if", "y", 0, [("return", 2)], [("return", 3)])]), ("return", 1)]
        self.assertEqual([told({"x": (2, x), "y": (2, y)}, block)[3] for x in range(2) for y in range(2)],
                         [2, 3, 1, 1])

    def test_variables_keep_their_values(self):
        house = read_alone({"x": (3, 1)}, [("set", "x", ("plus", "x", 1)), ("return", "x")], size=3)
        steps = []
        for value in [2, 0, 1, 2]:
            steps.extend([BEGIN, ("reader", "end", value)])
            self.assertEqual(after(house, *steps)[1], (0, -1, (value,), -1))


class WaysTest(Case):
    """[3.7], [4.3]: the places of gets and writes, and the ways between them"""

    def path(self, house, steps):
        """The reader's phases and places behind each step of the reader."""
        return [after(house, *steps[:many + 1])[1][:2] for many in range(len(steps))]

    def once(self, value=-1):
        return ("reader", "once", value)

    def test_one_behind_the_other(self):
        cells = [Cell("a", "atomic", 2, owner="reader"), Cell("b", "atomic", 2, 1)]
        block = [("set", "x", 0), ("write", "a", 1), ("set", "x", 1), ("get", "x", "b"), ("set", "x", 0)]
        house = read_alone({"x": (2, 0)}, block, cells=cells)
        self.assertEqual(self.path(house, [BEGIN, self.once(), self.once(1)]), [(1, 1), (1, 3), (3, -1)])

    def test_places_in_both_blocks_of_an_if(self):
        cells = [Cell("a", "atomic", 2, owner="reader")]
        block = [("if", "x", 0, [("write", "a", 1), ("write", "a", 0)], [("write", "a", 1), ("write", "a", 0)]),
                 ("write", "a", "x")]
        paths = [(1, 1), (1, 2), (1, 5), (3, -1)], [(1, 3), (1, 4), (1, 5), (3, -1)]
        for value, expected in enumerate(paths):
            house = read_alone({"x": (2, value)}, block, cells=cells)
            self.assertEqual(self.path(house, [BEGIN] + [self.once()] * 3), expected)

    def test_a_while_asks_again_behind_its_body(self):
        cells = [Cell("a", "atomic", 4, owner="reader")]
        body = [("write", "a", "x"), ("set", "x", ("plus", "x", 1)), ("set", "y", "z")]
        block = [("while", "x", "y", body), ("return", "x")]
        house = read_alone({"x": (4, 0), "y": (4, 0), "z": (4, 1)}, block, cells=cells, size=4)
        self.assertEqual(self.path(house, [BEGIN] + [self.once()] * 2), [(1, 1), (1, 1), (3, -1)])
        self.assertEqual(after(house, BEGIN, self.once(), self.once())[1], (3, -1, (2, 1, 1), 2))
        # In the next round the while does not begin at all.
        again = [BEGIN, self.once(), self.once(), ("reader", "end", 2), BEGIN]
        self.assertEqual(after(house, *again)[1], (3, -1, (2, 1, 1), 2))

    def test_nested_whiles(self):
        cells = [Cell("a", "atomic", 2, owner="reader")]
        inner = ("while", "y", 0, [("write", "a", 0), ("set", "y", 1)])
        block = [("while", "x", 0, [inner, ("set", "y", 0), ("set", "x", ("plus", "x", 1)), ("write", "a", 1)]),
                 ("write", "a", "x")]
        house = read_alone({"x": (3, 0), "y": (2, 0)}, block, cells=cells)
        path = self.path(house, [BEGIN] + [self.once()] * 3)
        self.assertEqual(path, [(1, 2), (1, 6), (1, 7), (3, -1)])

    def test_the_end_of_a_while_that_ends_a_while(self):
        # Behind the inner while the outer one asks again, and behind the outer one the round ends.
        cells = [Cell("a", "atomic", 2, owner="reader")]
        inner = ("while", "y", 0, [("write", "a", 1), ("set", "y", 1)])
        block = [("while", "x", 0, [("write", "a", 0), inner, ("set", "y", "z"), ("set", "x", "z")])]
        house = read_alone({"x": (2, 0), "y": (2, 0), "z": (2, 1)}, block, cells=cells)
        self.assertEqual(self.path(house, [BEGIN] + [self.once()] * 2), [(1, 1), (1, 3), (3, -1)])
        house = read_alone({"x": (2, 0), "y": (2, 0), "z": (2, 0)}, block, cells=cells)
        self.assertEqual(self.path(house, [BEGIN] + [self.once()] * 4), [(1, 1), (1, 3), (1, 1), (1, 3), (1, 1)])
        last = [("while", "x", 0, [("write", "a", 0), ("if", "x", 0, [("set", "y", 0)], []), inner])]
        house = read_alone({"x": (2, 0), "y": (2, 0)}, last, cells=cells)
        self.assertEqual(self.path(house, [BEGIN] + [self.once()] * 3), [(1, 1), (1, 5), (1, 1), (1, 5)])

    def test_an_if_that_ends_a_while(self):
        cells = [Cell("a", "atomic", 2, owner="reader")]
        choice = ("if", "y", 0, [("write", "a", 0)], [("write", "a", 1), ("set", "x", 1)])
        block = [("while", "x", 0, [choice]), ("return", 1)]
        house = read_alone({"x": (2, 0), "y": (2, 0)}, block, cells=cells)
        self.assertEqual(self.path(house, [BEGIN] + [self.once()] * 3), [(1, 2)] * 4)
        house = read_alone({"x": (2, 0), "y": (2, 1)}, block, cells=cells)
        self.assertEqual(self.path(house, [BEGIN, self.once()]), [(1, 3), (3, -1)])

    def test_a_return_within_whiles_ends_the_round(self):
        cells = [Cell("a", "atomic", 2, owner="reader")]
        deep = [("write", "a", 1), ("return", 1)]
        for _ in range(2):
            deep = [("write", "a", 0), ("while", "x", 0, deep)]
        house = read_alone({"x": (2, 0)}, [("while", "x", 0, deep)], cells=cells)
        steps = [BEGIN] + [self.once()] * 3
        self.assertEqual(self.path(house, steps), [(1, 1), (1, 3), (1, 5), (3, -1)])
        self.assertEqual(after(house, *steps)[1][3], 1)

    def test_a_get_decides_a_while(self):
        house = read_alone({"x": (2, 0)}, [("while", "x", 0, [GET_A]), ("return", "x")],
                           cells=[Cell("a", "safe", 2, owner="writer")])
        writer = Program("writer", {}, [("write", "a", "new")])
        house = house.with_programs(writer, house.reader)
        ahead = [("writer", "begin", 1), ("writer", "start", -1), BEGIN, START]
        self.assertEqual(after(house, *ahead, finish("reader", 0))[1], (1, 1, (0,), -1))
        self.assertEqual(after(house, *ahead, finish("reader", 1))[1], (3, -1, (1,), 1))

    def test_a_writer_with_local_variables(self):
        # The writer writes into one cell and then into the other, in turn.
        cells = [Cell("a", "atomic", 2), Cell("b", "atomic", 2)]
        block = [("set", "t", ("plus", "t", 1)), ("if", "t", 1, [("write", "a", "new")], [("write", "b", "new")]),
                 ("get", "l", "a")]
        house = write_alone({"t": (2, 0), "l": (3, 2)}, block, cells=cells)
        once = ("writer", "once", -1)
        steps = [("writer", "begin", 1), once, ("writer", "once", 1), ("writer", "end", -1), ("writer", "begin", 1)]
        self.assertEqual(after(house, *steps[:1])[0], (1, 2, (2, 1), 1))
        self.assertEqual(after(house, *steps[:2])[0], (1, 4, (2, 1), 1))
        self.assertEqual(after(house, *steps[:3])[0], (3, -1, (1, 1), 1))
        self.assertEqual(after(house, *steps)[0], (1, 3, (1, 0), 1))
        self.assertEqual(after(house, *steps, once)[2], ((1, -1, ()), (1, -1, ())))

    def test_a_cell_and_a_variable_of_one_name(self):
        cells = [Cell("x", "atomic", 4, 3), Cell("a", "atomic", 4, 2, owner="reader")]
        block = [("get", "a", "x"), ("write", "a", "x"), ("get", "x", "a"), ("return", "a")]
        house = read_alone({"x": (4, 1), "a": (4, 0)}, block, cells=cells, size=4)
        # The variables are a and x, in this order; the cells x and a.
        state = after(house, BEGIN, self.once(3), self.once(), self.once(1))
        self.assertEqual(state[1:], ((3, -1, (3, 1), 3), ((3, -1, ()), (1, -1, ()))))


class MovesTest(Case):
    """[4.8]: what is told of the moves"""

    def test_the_writers_moves_stand_first(self):
        house = bit()
        state = after(house, BEGIN, START)
        self.assertEqual(
            steps_in(house, state), [("writer", "begin", 0), ("writer", "begin", 1), finish("reader", 0)])
        state = after(house, ("writer", "begin", 1), ("writer", "start", -1), BEGIN, START)
        self.assertEqual(
            steps_in(house, state), [finish("writer"), finish("reader", 0), finish("reader", 1)])

    def test_pairs_are_tuples_in_a_list(self):
        house = bit()
        found = moves(house, initial(house))
        self.assertIs(type(found), list)
        for pair in found:
            self.assertIs(type(pair), tuple)
            step, state = pair
            self.assertEqual([type(item) for item in step], [str, str, int])
            self.assertIs(type(step), tuple)
            self.assertEqual(state, after(house, step))

    def test_a_changed_list_changes_no_later_answer(self):
        house = bit()
        state = initial(house)
        found = moves(house, state)
        kept = list(found)
        found.clear()
        self.assertEqual(moves(house, state), kept)
        self.assertEqual(state, initial(house))
        self.assertEqual(house, bit())

    def test_all_steps_of_one_side_have_the_same_word(self):
        for seed in range(60):
            source = random.Random(seed)
            house = random_house(source)
            state = initial(house)
            for _ in range(40):
                found = moves(house, state)
                for side in ["writer", "reader"]:
                    words = [step[1] for step, _ in found if step[0] == side]
                    self.assertEqual(len(set(words)), 1)
                self.assertEqual(found, sorted(found, key=lambda pair: (pair[0][0] == "reader", pair[0][2])))
                state = source.choice(found)[1]

    def test_the_passed_state_stays(self):
        house = bit()
        state = after(house, ("writer", "begin", 1), ("writer", "start", -1), BEGIN, START)
        moves(house, state)
        self.assertEqual(state, ((2, 0, (), 1), (2, 0, (0,), -1), ((0, 1, (0, 1)),)))

    def test_each_house_against_a_second_one(self):
        for seed in range(500):
            source = random.Random(seed)
            house = random_house(source, least=3 * (seed % 2))
            twin = Twin(house)
            state = initial(house)
            for _ in range(60):
                with self.subTest(seed=seed):
                    self.assertEqual(state, twin.state())
                    found = moves(house, state)
                    self.assertEqual([step for step, _ in found], twin.choices())
                    step, state = source.choice(found)
                    twin.step(step)


class WriteTest(Case):
    """[4.4], [4.5]"""

    def house(self, kind, size=2, start=0, term="new"):
        return write_alone({"x": (4, 3)}, [("write", "a", term)], cells=[Cell("a", kind, size, start)], size=4)

    def test_a_write_step_by_step(self):
        for kind in ["safe", "regular"]:
            house = self.house(kind, size=4, start=3)
            steps = [("writer", "begin", 2), ("writer", "start", -1), finish("writer"), ("writer", "end", -1)]
            parts = [after(house, *steps[:many])[2][0] for many in range(5)]
            self.assertEqual(parts, [(3, -1, ()), (3, -1, ()), (3, 2, ()), (2, -1, ()), (2, -1, ())])

    def test_a_write_at_once(self):
        house = self.house("atomic", size=4, start=3)
        steps = [("writer", "begin", 2), ("writer", "once", -1), ("writer", "end", -1)]
        parts = [after(house, *steps[:many])[2][0] for many in range(4)]
        self.assertEqual(parts, [(3, -1, ()), (3, -1, ()), (2, -1, ()), (2, -1, ())])
        self.assertEqual(after(house, *steps[:2])[0], (3, -1, (3,), 2))

    def test_the_step_has_no_value(self):
        for kind, word in [("safe", "start"), ("regular", "start"), ("atomic", "once")]:
            house = self.house(kind)
            state = after(house, ("writer", "begin", 1))
            self.assertEqual(steps_in(house, state)[0], ("writer", word, -1))

    def test_what_is_written_is_taken_modulo_the_size_of_the_cell(self):
        for size, new in itertools.product([2, 3, 4], range(4)):
            begin = ("writer", "begin", new)
            for term, worth in [("new", new), (new, new), ("x", 3), (("plus", "x", 3), 2)]:
                house = self.house("atomic", size=size, term=term)
                state = after(house, begin, ("writer", "once", -1))
                self.assertEqual(state[2], ((worth % size, -1, ()),))
                house = self.house("safe", size=size, term=term)
                state = after(house, begin, ("writer", "start", -1))
                self.assertEqual(state[2], ((0, worth % size, ()),))

    def test_a_write_of_the_value_that_the_cell_has(self):
        for kind in ["safe", "regular"]:
            house = self.house(kind, start=1)
            state = after(house, ("writer", "begin", 1), ("writer", "start", -1))
            self.assertEqual(state[2], ((1, 1, ()),))
            self.assertEqual(behind(house, state, finish("writer"))[2], ((1, -1, ()),))

    def test_a_side_is_ready_again_behind_its_write(self):
        cells = [Cell("a", "regular", 2)]
        block = [("write", "a", 1), ("set", "x", 0), ("write", "a", "x")]
        house = write_alone({"x": (2, 1)}, block, cells=cells)
        steps = [("writer", "begin", 0), ("writer", "start", -1), finish("writer"), ("writer", "start", -1)]
        self.assertEqual(after(house, *steps[:3]), ((1, 2, (0,), 0), (0, -1, (), -1), ((1, -1, ()),)))
        self.assertEqual(after(house, *steps), ((2, 2, (0,), 0), (0, -1, (), -1), ((1, 0, ()),)))


class GetTest(Case):
    """[4.6]: gets by the side that does not own the cell"""

    WRITE = ("writer", "start", -1)
    WROTE = ("writer", "finish", -1)

    def begun(self, value):
        return ("writer", "begin", value)

    def whole(self, value):
        """A whole round of the writer."""
        return [self.begun(value), self.WRITE, self.WROTE, ("writer", "end", -1)]

    def seen(self, kind, *steps, start=0, size=4):
        house = bit(kind, size=size, start=start)
        state = after(house, *steps)
        values = state[2][0][2]
        # Just these values can be told.
        told = [step[2] for step in steps_in(house, state) if step[:2] == ("reader", "finish")]
        self.assertEqual(tuple(told), values)
        for value in told:
            ended = behind(house, state, finish("reader", value))
            self.assertEqual(ended[1], (3, -1, (value,), value))
            self.assertEqual(ended[2], (state[2][0][:2] + ((),),))
            self.assertEqual(ended[0], state[0])
        return values

    def test_no_write_overlaps(self):
        for kind in ["safe", "regular"]:
            self.assertEqual(self.seen(kind, BEGIN, START, start=3), (3,))
            self.assertEqual(self.seen(kind, *self.whole(2), BEGIN, START), (2,))
            # A round has begun, but not its write; or its write has ended.
            self.assertEqual(self.seen(kind, self.begun(2), BEGIN, START, start=3), (3,))
            self.assertEqual(self.seen(kind, BEGIN, START, self.begun(2), start=3), (3,))
            self.assertEqual(self.seen(kind, self.begun(2), self.WRITE, self.WROTE, BEGIN, START), (2,))

    def test_the_read_counts_from_the_start_of_its_get(self):
        for kind in ["safe", "regular"]:
            self.assertEqual(self.seen(kind, BEGIN, *self.whole(2), START), (2,))

    def test_a_write_is_under_way_when_the_get_starts(self):
        ahead = [self.begun(1), self.WRITE, BEGIN, START]
        self.assertEqual(self.seen("regular", *ahead, start=3), (1, 3))
        self.assertEqual(self.seen("safe", *ahead, start=3), (0, 1, 2, 3))
        self.assertEqual(self.seen("safe", *ahead, start=2, size=3), (0, 1, 2))
        # What may be told stays when the write ends.
        self.assertEqual(self.seen("regular", *ahead, self.WROTE, start=3), (1, 3))
        self.assertEqual(self.seen("safe", *ahead, self.WROTE, start=3), (0, 1, 2, 3))

    def test_a_write_starts_while_the_get_is_under_way(self):
        ahead = [BEGIN, START, self.begun(1), self.WRITE]
        self.assertEqual(self.seen("regular", *ahead, start=3), (1, 3))
        self.assertEqual(self.seen("safe", *ahead, start=3), (0, 1, 2, 3))
        self.assertEqual(self.seen("regular", *ahead, self.WROTE, start=3), (1, 3))
        self.assertEqual(self.seen("safe", *ahead, self.WROTE, start=3), (0, 1, 2, 3))

    def test_several_writes_overlap(self):
        ahead = [self.begun(3), self.WRITE, BEGIN, START, self.WROTE, ("writer", "end", -1)]
        self.assertEqual(self.seen("regular", *ahead, *self.whole(1), *self.whole(3)), (0, 1, 3))
        self.assertEqual(self.seen("regular", *ahead, *self.whole(1), *self.whole(2)), (0, 1, 2, 3))
        self.assertEqual(self.seen("safe", *ahead, *self.whole(3)), (0, 1, 2, 3))
        # What ended before the get started may not be told.
        self.assertEqual(self.seen("regular", *self.whole(1), *ahead), (1, 3))

    def test_a_write_of_the_value_that_the_cell_has(self):
        ahead = [self.begun(2), self.WRITE, BEGIN, START]
        self.assertEqual(self.seen("regular", *ahead, start=2), (2,))
        self.assertEqual(self.seen("safe", *ahead, start=2), (0, 1, 2, 3))
        ahead = [BEGIN, START, self.begun(2), self.WRITE]
        self.assertEqual(self.seen("regular", *ahead, start=2), (2,))
        self.assertEqual(self.seen("safe", *ahead, start=2), (0, 1, 2, 3))

    def test_an_atomic_cell(self):
        house = bit("atomic", size=4, start=3)
        self.assertEqual(steps_in(house, after(house, BEGIN))[-1], ("reader", "once", 3))
        state = after(house, BEGIN, ("reader", "once", 3))
        self.assertEqual(state, ((0, -1, (), -1), (3, -1, (3,), 3), ((3, -1, ()),)))
        # Up to the one step of the write the old value is told, then the new one.
        ready = [BEGIN, self.begun(1)]
        self.assertEqual(steps_in(house, after(house, *ready)), [("writer", "once", -1), ("reader", "once", 3)])
        ready.append(("writer", "once", -1))
        self.assertEqual(steps_in(house, after(house, *ready)), [("writer", "end", -1), ("reader", "once", 1)])

    def test_a_get_is_stored_modulo_the_size_of_the_variable(self):
        for kind in KINDS:
            for size, start in itertools.product([2, 3, 4], range(4)):
                cells = [Cell("a", kind, 4, start)]
                house = read_alone({"x": (size, 0)}, [GET_A, ("return", "x")], cells=cells, size=4)
                ahead = [BEGIN] if kind == "atomic" else [BEGIN, START]
                last = ("reader", "once" if kind == "atomic" else "finish", start)
                self.assertEqual(after(house, *ahead, last)[1], (3, -1, (start % size,), start % size))

    def test_other_cells_and_variables_stay(self):
        cells = [Cell("a", "regular", 4, 1), Cell("b", "regular", 4, 2), Cell("c", "safe", 4, 3)]
        house = read_alone({"w": (4, 1), "x": (4, 3), "y": (4, 2)}, [("get", "x", "b")], cells=cells)
        steps = [BEGIN, START, finish("reader", 2)]
        self.assertEqual(after(house, *steps[:2])[2], ((1, -1, ()), (2, -1, (2,)), (3, -1, ())))
        self.assertEqual(after(house, *steps)[1:], ((3, -1, (1, 2, 2), 0), ((1, -1, ()), (2, -1, ()), (3, -1, ()))))

    def test_a_cell_of_the_reader_that_the_writer_gets(self):
        writer = Program("writer", {"x": (4, 0)}, [("get", "x", "a")])
        reader = Program("reader", {"y": (4, 1)}, [("write", "a", ("plus", "y", 1))])
        start, wrote = ("writer", "start", -1), ("reader", "finish", -1)
        for kind, overlapped in [("regular", (2, 3)), ("safe", (0, 1, 2, 3))]:
            house = House([Cell("a", kind, 4, 3, owner="reader")], writer, reader)
            state = after(house, BEGIN, START, self.begun(0), start)
            self.assertEqual(state[2], ((3, 2, overlapped),))
            self.assertEqual(steps_in(house, state), [finish("writer", value) for value in overlapped] + [wrote])
            state = after(house, self.begun(0), start, BEGIN, START)
            self.assertEqual(state[2], ((3, 2, overlapped),))
            self.assertEqual(behind(house, state, wrote)[2], ((2, -1, overlapped),))
            self.assertEqual(behind(house, state, finish("writer", 2))[0], (3, -1, (2,), 0))


class OwnerTest(Case):
    """[4.7]: gets by the owner"""

    def house(self, kind):
        """The writer gets its own cell and writes it; the reader gets it, too."""
        writer = Program("writer", {"l": (3, 0)}, [("get", "l", "a"), ("write", "a", "new")])
        return House([Cell("a", kind, 4, 3)], writer, bit(size=4).reader, size=4)

    def test_the_same_steps_and_one_value(self):
        for kind in ["safe", "regular"]:
            house = self.house(kind)
            state = after(house, ("writer", "begin", 1), ("writer", "start", -1))
            self.assertEqual(state[0], (2, 0, (0,), 1))
            self.assertEqual(state[2], ((3, -1, ()),))
            self.assertEqual(steps_in(house, state)[0], finish("writer", 3))
            state = behind(house, state, finish("writer", 3))
            self.assertEqual((state[0], state[2]), ((1, 1, (0,), 1), ((3, -1, ()),)))

    def test_an_atomic_cell(self):
        house = self.house("atomic")
        state = after(house, ("writer", "begin", 1))
        self.assertEqual(steps_in(house, state)[0], ("writer", "once", 3))
        state = behind(house, state, ("writer", "once", 3))
        self.assertEqual((state[0], state[2]), ((1, 1, (0,), 1), ((3, -1, ()),)))

    def test_the_get_of_the_other_side_stays_under_way(self):
        for kind in ["safe", "regular"]:
            house = self.house(kind)
            steps = [BEGIN, START, ("writer", "begin", 1), ("writer", "start", -1), finish("writer", 3)]
            for many in range(2, 6):
                self.assertEqual(after(house, *steps[:many])[2], ((3, -1, (3,)),))
            # With several values seen, the owner still has one.
            overlapped = (1, 3) if kind == "regular" else (0, 1, 2, 3)
            steps.extend([("writer", "start", -1), finish("writer"), ("writer", "end", -1)])
            steps.extend([("writer", "begin", 2), ("writer", "start", -1)])
            state = after(house, *steps)
            self.assertEqual(state[2], ((1, -1, overlapped),))
            self.assertEqual(steps_in(house, state)[0], finish("writer", 1))
            self.assertEqual(steps_in(house, state)[1][1], "finish")
            self.assertEqual(behind(house, state, finish("writer", 1))[2], ((1, -1, overlapped),))
            # The other side ends its get while the owner's is under way.
            ended = behind(house, state, finish("reader", 3))
            self.assertEqual((ended[0][0], ended[2]), (2, ((1, -1, ()),)))

    def test_the_reader_owns_the_cell(self):
        block = [("get", "x", "a"), ("write", "a", ("plus", "x", 1)), ("return", "x")]
        cells = [Cell("a", "safe", 4, 2, owner="reader")]
        house = read_alone({"x": (4, 0)}, block, cells=cells, size=4)
        steps = [BEGIN, START, finish("reader", 2), START]
        self.assertEqual(after(house, *steps[:2])[2], ((2, -1, ()),))
        self.assertEqual(steps_in(house, after(house, *steps[:2]))[-1], finish("reader", 2))
        self.assertEqual(after(house, *steps)[1:], ((2, 1, (2,), -1), ((2, 3, ()),)))


class EventTest(Case):
    """[4.9]"""

    def test_events_of_the_made_cell(self):
        for value in range(4):
            self.assertEqual(event_of(("writer", "begin", value)), ("write", value))
            self.assertEqual(event_of(("reader", "end", value)), ("told", value))
        self.assertEqual(event_of(("writer", "end", -1)), ("wrote",))
        self.assertEqual(event_of(("reader", "begin", -1)), ("read",))

    def test_other_steps_have_none(self):
        for side, word, value in itertools.product(["writer", "reader"], ["start", "finish", "once"], range(-1, 4)):
            self.assertIsNone(event_of((side, word, value)))


if __name__ == "__main__":
    unittest.main()
