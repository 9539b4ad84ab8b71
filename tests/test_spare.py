import itertools
import random
import unittest

from cellsatonce.cells import Cell
from cellsatonce.errors import BadProgram, NoPromise, TooMany
from cellsatonce.houses import House
from cellsatonce.kept import breaking
from cellsatonce.programs import Program
from cellsatonce.spare import least_programs, spare_statements
from cellsatonce.standings import reach
from helper import Case
from small_houses import (
    PROMISES, big, bit, careful, empty, endless, near_house, random_house, scanned, two_bits,
)


def keeps(house, promise):
    return breaking(house, promise) is None


def store_of(program):
    return {name: (size, start) for name, size, start in program.store}


def kept_part(block, kept, counter, whole):
    """The statements of a block whose places are kept, or None if one stands in another that is not."""
    part = []
    for statement in block:
        place = next(counter)
        inner = [kept_part(row, kept, counter, whole and place in kept) for row in statement[3:]]
        if place in kept:
            if not whole or None in inner:
                return None
            part.append(statement[:3] + tuple(inner))
        elif any(row is None or len(row) > 0 for row in inner):
            return None
    return part


def choices_of(program):
    """All tuples of places that can be kept, each with its program, by trying each set of places."""
    found = {}
    for many in range(program.count + 1):
        for places in itertools.combinations(range(program.count), many):
            part = kept_part(program.block, places, itertools.count(), True)
            if part is not None:
                try:
                    found[places] = Program(program.side, store_of(program), part)
                except BadProgram:
                    pass
    return found


def least_choices(house, promise):
    """The least choices by trying all."""
    enough = []
    for (first, writer), (second, reader) in itertools.product(
            choices_of(house.writer).items(), choices_of(house.reader).items()):
        if keeps(house.with_programs(writer, reader), promise):
            enough.append((first, second))
    least = []
    for choice in enough:
        within = [other for other in enough if all(set(low) <= set(high) for low, high in zip(other, choice))]
        if within == [choice]:
            least.append(choice)
    return sorted(least)


def parts_of(house):
    """The house with each choice."""
    return [house.with_programs(writer, reader) for writer, reader in itertools.product(
        choices_of(house.writer).values(), choices_of(house.reader).values())]


def without(house, side, place):
    """The house without a statement, or None if that is none."""
    try:
        if side == "writer":
            return house.with_programs(house.writer.without(place), house.reader)
        return house.with_programs(house.writer, house.reader.without(place))
    except BadProgram:
        return None


def spare_pairs(house, promise):
    found = []
    for side, program in [("writer", house.writer), ("reader", house.reader)]:
        for place in range(program.count):
            rest = without(house, side, place)
            if rest is not None and keeps(rest, promise):
                found.append((side, place))
    return found


def rests_of(house):
    """The house, and the house without each statement where that is one."""
    rests = [without(house, side, place)
             for side, program in [("writer", house.writer), ("reader", house.reader)]
             for place in range(program.count)]
    return [house] + [rest for rest in rests if rest is not None]


def kept_houses(many, most=300, statements=99):
    """Houses with a promise that they keep, with few standings in them and in all that is asked of them."""
    for seed in range(many):
        house = near_house(random.Random(seed))
        if house.writer.count + house.reader.count <= statements:
            for promise in PROMISES:
                try:
                    for rest in rests_of(house):
                        reach(rest, promise, limit=most)
                except TooMany:
                    continue
                if keeps(house, promise):
                    yield house, promise


def wide(more_writer=0, more_reader=0):
    """A bit with so many statements more, which are for nothing."""
    writer = Program("writer", {}, [("write", "a", "new")] + [("write", "b", 0)] * more_writer)
    block = [("get", "x", "a")] + [("set", "x", "x")] * more_reader + [("return", "x")]
    reader = Program("reader", {"x": (2, 0)}, block)
    return House([Cell("a", "atomic", 2), Cell("b", "atomic", 2)], writer, reader)


class SpareStatementsTest(Case):
    """[9.1]"""

    def test_nothing_is_spare(self):
        for kind in PROMISES:
            self.assertEqual(spare_statements(bit(kind), kind), [])
            self.assertEqual(spare_statements(bit(kind), "safe"), [])
        self.assertEqual(spare_statements(careful("safe"), "regular"), [])

    def test_the_writers_pairs_stand_first(self):
        self.assertEqual(spare_statements(two_bits(), "regular"), [("writer", 0), ("reader", 0)])
        self.assertEqual(spare_statements(two_bits("safe", "atomic"), "atomic"), [("writer", 0), ("reader", 0)])
        found = spare_statements(wide(2, 2), "atomic")
        self.assertEqual(found, [("writer", 1), ("writer", 2), ("reader", 1), ("reader", 2)])
        for pair in found:
            self.assertIs(type(pair), tuple)

    def test_an_if_with_all_that_stands_in_it(self):
        # Without the "if", the cell would be written always, which is no harm to a regular one.
        house = bit("regular")
        writer = Program("writer", {"x": (2, 0)}, [
            ("if", "x", 0, [("write", "a", "new"), ("set", "x", 1)], [("set", "x", 0), ("write", "a", "new")]),
        ])
        # Without the write of one block a value is lost; without a set the same block is followed for ever.
        self.assertEqual(spare_statements(house.with_programs(writer, house.reader), "regular"), [
            ("writer", 2), ("writer", 3)])
        # One that is followed for nothing: as a whole, and each part alone.
        reader = Program("reader", {"x": (2, 0), "y": (2, 0)}, [
            ("get", "x", "a"),
            ("if", "y", 1, [("get", "x", "a"), ("set", "x", 0)], [("set", "y", 0)]),
            ("return", "x"),
        ])
        self.assertEqual(spare_statements(house.with_programs(house.writer, reader), "regular"), [
            ("reader", 1), ("reader", 2), ("reader", 3), ("reader", 4)])

    def test_a_while_with_all_that_stands_in_it(self):
        # The loop may be left out with its get, but not the get alone, as the loop would be idle.
        house = bit("regular")
        reader = Program("reader", {"x": (2, 0), "y": (2, 0)}, [
            ("get", "x", "a"),
            ("while", "y", 1, [("get", "y", "a"), ("set", "y", 0)]),
            ("return", "x"),
        ])
        house = house.with_programs(house.writer, reader)
        self.assertIsNone(without(house, "reader", 2))
        self.assertEqual(spare_statements(house, "regular"), [("reader", 1), ("reader", 3)])
        self.assertEqual(spare_statements(endless(), "atomic"), [("reader", 2)])

    def test_found_a_second_way(self):
        seen = 0
        for house, promise in kept_houses(60):
            found = spare_statements(house, promise)
            self.assertIs(type(found), list)
            self.assertEqual(found, spare_pairs(house, promise))
            seen += len(found)
        self.assertGreater(seen, 50)

    def test_random_houses(self):
        for seed, promise in itertools.product(range(80), PROMISES):
            house = random_house(random.Random(seed), most_cells=2, least=1)
            try:
                most = max(reach(rest, promise, limit=200) for rest in rests_of(house))
            except TooMany:
                continue
            if keeps(house, promise):
                self.assertEqual(spare_statements(house, promise, limit=most), spare_pairs(house, promise))
            else:
                self.raises(NoPromise(), spare_statements, house, promise)

    def test_no_promise(self):
        self.raises(NoPromise(), spare_statements, bit("safe"), "regular")
        self.raises(NoPromise(), spare_statements, bit(), "atomic")
        for promise in PROMISES:
            self.raises(NoPromise(), spare_statements, empty(), promise)

    def test_all_rests_count_for_the_limit(self):
        counted = 0
        for house, promise in kept_houses(50):
            many = [reach(rest, promise) for rest in rests_of(house)]
            self.assertEqual(spare_statements(house, promise, limit=max(many)), spare_pairs(house, promise))
            self.raises(TooMany(max(many) - 1), lambda: spare_statements(house, promise, limit=max(many) - 1))
            counted += max(many) > many[0]
        self.assertGreater(counted, 0)

    def test_the_house_is_explored_ahead_of_the_rests(self):
        # It breaks the promise within a limit that a rest of it passes.
        counted = 0
        for seed in range(100):
            house = near_house(random.Random(seed))
            for promise in PROMISES:
                try:
                    many = [reach(rest, promise, limit=300) for rest in rests_of(house)]
                except TooMany:
                    continue
                if max(many) > many[0] and not keeps(house, promise):
                    self.raises(NoPromise(), lambda: spare_statements(house, promise, limit=many[0]))
                    self.raises(TooMany(many[0] - 1), lambda: spare_statements(house, promise, limit=many[0] - 1))
                    counted += 1
        self.assertGreater(counted, 3)
        self.raises(TooMany(3000), spare_statements, big(), "safe")

    def test_a_new_list_each_time(self):
        house = two_bits()
        spare_statements(house, "safe").clear()
        self.assertEqual(spare_statements(house, "safe"), [("writer", 0), ("reader", 0)])
        self.assertEqual(house, two_bits())

    def test_wrong_arguments(self):
        self.raises_for_promises(lambda value: spare_statements(big(), value))
        self.raises_for_promises(lambda value: spare_statements(empty(), value, limit=0))
        self.raises_for_limits(lambda *, limit: spare_statements(big(), "safe", limit=limit))
        self.raises_for_limits(lambda *, limit: spare_statements(empty(), "safe", limit=limit))


class LeastProgramsTest(Case):
    """[9.2]"""

    def test_all_is_needed(self):
        for kind in PROMISES:
            self.assertEqual(least_programs(bit(kind), kind), [((0,), (0, 1))])
        self.assertEqual(least_programs(careful("safe"), "regular"), [((0, 1, 2), (0, 1))])

    def test_what_is_for_nothing(self):
        self.assertEqual(least_programs(two_bits(), "regular"), [((1,), (1, 2))])
        self.assertEqual(least_programs(wide(2, 2), "atomic"), [((0,), (0, 3))])
        # Of two writes either will do, also for "safe" alone.
        writer = Program("writer", {}, [("write", "a", "new"), ("write", "a", "new")])
        house = bit().with_programs(writer, bit().reader)
        self.assertEqual(least_programs(house, "regular"), [((0,), (0, 1)), ((1,), (0, 1))])
        self.assertEqual(spare_statements(house, "regular"), [("writer", 0), ("writer", 1)])

    def test_the_choices_ascend(self):
        # The write of the new value is enough, and so is that of the variable with the set ahead.
        writer = Program("writer", {"x": (2, 0)}, [("set", "x", "new"), ("write", "a", "new"), ("write", "a", "x")])
        house = bit().with_programs(writer, bit().reader)
        self.assertEqual(least_programs(house, "regular"), [((0, 2), (0, 1)), ((1,), (0, 1))])
        reader = Program("reader", {"x": (2, 0), "y": (2, 0)}, [
            ("get", "x", "a"), ("get", "y", "a"), ("set", "x", "y"), ("return", "x")])
        house = bit("atomic").with_programs(bit().writer, reader)
        self.assertEqual(least_programs(house, "atomic"), [((0,), (0, 3)), ((0,), (1, 2, 3))])

    def test_kept_statements_stand_within_kept_ones(self):
        # The write stands in a block that is always followed, and the "if" is kept with it.
        writer = Program("writer", {"x": (2, 0)}, [("if", "x", 0, [("write", "a", "new")], [("set", "x", 0)])])
        house = bit().with_programs(writer, bit().reader)
        self.assertEqual(least_programs(house, "regular"), [((0, 1), (0, 1))])
        block = [("get", "y", "a"), ("if", "x", 0, [("if", "x", 0, [("return", "y")], [])], [("return", 1)])]
        reader = Program("reader", {"x": (2, 0), "y": (2, 0)}, block)
        house = bit().with_programs(bit().writer, reader)
        self.assertEqual(least_programs(house, "regular"), [((0,), (0, 1, 2, 3))])

    def test_a_choice_without_any_statement(self):
        # A program of no statement is a choice, but the house with both such breaks all promises.
        house = endless()
        self.assertEqual(house.writer.count, 0)
        self.assertEqual(least_programs(house, "atomic"), [((), (0, 1))])
        self.raises(NoPromise(), least_programs, empty(), "safe")
        # The loop waits for ever, whatever the writer does to another cell.
        cells = [Cell("a", "safe", 2), Cell("b", "safe", 2)]
        house = House(cells, Program("writer", {}, [("write", "b", "new")] * 2), house.reader)
        self.assertEqual(least_programs(house, "atomic"), [((), (0, 1))])

    def test_what_is_no_program_is_no_choice(self):
        # Without its get the loop would be idle.
        reader = Program("reader", {"x": (2, 0), "y": (2, 0)}, [
            ("get", "x", "a"), ("while", "y", 1, [("get", "y", "a")]), ("return", "x")])
        house = bit().with_programs(bit().writer, reader)
        self.assertEqual(least_programs(house, "regular"), [((0,), (0, 3))])
        # What is left of an "if" that ends the round makes the next statement no dead one.
        reader = Program("reader", {"x": (2, 0)}, [
            ("get", "x", "a"), ("if", "x", 0, [("return", "x")], [("return", 1)])])
        house = bit().with_programs(bit().writer, reader)
        self.assertEqual(least_programs(house, "regular"), [((0,), (0, 1, 3))])

    def test_found_a_second_way(self):
        seen = {True: 0, False: 0}
        for house, promise in kept_houses(120, most=150, statements=7):
            most = max(reach(part, promise) for part in parts_of(house))
            expected = least_choices(house, promise)
            found = least_programs(house, promise, limit=most)
            self.assertIs(type(found), list)
            self.assertEqual(found, expected)
            self.assertGreater(len(found), 0)
            self.raises(TooMany(most - 1), lambda: least_programs(house, promise, limit=most - 1))
            seen[len(found) > 1] += 1
        self.assertGreater(seen[True], 0)
        self.assertGreater(seen[False], 20)

    def test_random_houses(self):
        counted = 0
        for seed, promise in itertools.product(range(150), PROMISES):
            house = random_house(random.Random(seed), most_cells=1, least=1)
            if house.writer.count + house.reader.count > 6:
                continue
            try:
                reach(house, promise, limit=100)
            except TooMany:
                continue
            if keeps(house, promise):
                counted += 1
                self.assertEqual(least_programs(house, promise), least_choices(house, promise))
            else:
                self.raises(NoPromise(), least_programs, house, promise)
        self.assertGreater(counted, 1)

    def test_a_least_choice_needs_all_of_it(self):
        for house, promise in kept_houses(40, most=150, statements=8):
            for writer_kept, reader_kept in least_programs(house, promise):
                parts = [choices_of(house.writer)[writer_kept], choices_of(house.reader)[reader_kept]]
                least = house.with_programs(*parts)
                self.assertTrue(keeps(least, promise))
                self.assertEqual(spare_statements(least, promise), [])

    def test_more_than_eight_statements(self):
        self.assertEqual(least_programs(wide(3, 2), "atomic"), [((0,), (0, 3))])
        for house in [wide(4, 2), wide(3, 3), wide(6, 0), wide(0, 6), scanned(), big().with_programs(
                Program("writer", {}, [("write", "a", 0)] * 9), big().reader)]:
            for promise in PROMISES:
                self.raises(TooMany(8), least_programs, house, promise)
                # Ahead of the exploring, and whether the promise is kept or not.
                self.raises(TooMany(8), lambda: least_programs(house, promise, limit=1))
        wrong = bit().with_programs(Program("writer", {}, [("write", "a", 0)] * 9), bit().reader)
        self.raises(NoPromise(), spare_statements, wrong, "safe")
        self.raises(TooMany(8), least_programs, wrong, "safe")

    def test_no_promise_and_too_many(self):
        self.raises(NoPromise(), least_programs, bit("safe"), "regular")
        many = reach(bit("safe"), "regular")
        self.raises(NoPromise(), lambda: least_programs(bit("safe"), "regular", limit=many))
        self.raises(TooMany(many - 1), lambda: least_programs(bit("safe"), "regular", limit=many - 1))
        self.raises(TooMany(3000), least_programs, big(), "safe")

    def test_a_new_list_each_time(self):
        house = two_bits()
        least_programs(house, "safe").clear()
        self.assertEqual(least_programs(house, "safe"), [((1,), (1, 2))])
        self.assertEqual(house, two_bits())
        self.assertEqual([type(choice) for choice in least_programs(house, "safe")], [tuple])
        self.assertEqual([type(places) for places in least_programs(house, "safe")[0]], [tuple, tuple])

    def test_wrong_arguments(self):
        for house in [big(), wide(5, 5), empty()]:
            self.raises_for_promises(lambda value: least_programs(house, value))
            self.raises_for_promises(lambda value: least_programs(house, value, limit=0))
            self.raises_for_limits(lambda *, limit: least_programs(house, "safe", limit=limit))


if __name__ == "__main__":
    unittest.main()
