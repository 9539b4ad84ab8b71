import itertools
import random
import unittest

from cellsatonce.cells import Cell
from cellsatonce.errors import BadSetting, NoCase, TooMany
from cellsatonce.histories import fault
from cellsatonce.houses import House
from cellsatonce.kept import breaking
from cellsatonce.limits import not_atomic
from cellsatonce.programs import Program
from cellsatonce.runs import run
from cellsatonce.standings import reach
from helper import NO_LIMITS, Case
from small_houses import big, bit, careful, empty, endless, near_house, random_house, scanned, two_bits

LOOP = ("while", "x", 0, [("get", "x", "a")])


def cased(*, kinds=("regular", "safe"), owners=("writer", "writer"), writer_loops=False, reader_loops=False):
    """A house for each case of which nothing is known."""
    cells = [Cell(name, kind, 2, owner=owner) for name, kind, owner in zip("ab", kinds, owners)]
    writer = Program("writer", {"x": (2, 0)}, [LOOP] if writer_loops else [])
    # A loop that stands within something else.
    reader = Program("reader", {"x": (2, 0)}, [("if", "x", 1, [], [LOOP])] if reader_loops else [])
    return House(cells, writer, reader)


def why_not(house):
    """The first case that holds, or None."""
    statements = list(house.writer.walk()) + list(house.reader.walk())
    if [cell for cell in house.cells if cell.owner == "reader"]:
        return "owner"
    if [cell for cell in house.cells if cell.kind == "atomic"]:
        return "atomic"
    return "while" if [triple for triple in statements if triple[2][0] == "while"] else None


class NotAtomicTest(Case):
    """[11.1]"""

    def test_each_case(self):
        for owners in [("reader", "writer"), ("writer", "reader"), ("reader", "reader")]:
            self.raises(NoCase("owner"), not_atomic, cased(owners=owners))
        for kinds in [("atomic", "safe"), ("regular", "atomic"), ("atomic", "atomic")]:
            self.raises(NoCase("atomic"), not_atomic, cased(kinds=kinds))
        self.raises(NoCase("while"), not_atomic, cased(writer_loops=True))
        self.raises(NoCase("while"), not_atomic, cased(reader_loops=True))
        self.raises(NoCase("while"), not_atomic, cased(writer_loops=True, reader_loops=True))
        self.raises(NoCase("while"), not_atomic, endless())
        self.assertEqual(not_atomic(cased()), breaking(cased(), "atomic"))

    def test_the_order_of_the_cases(self):
        kinds = [("regular", "safe"), ("safe", "atomic")]
        owners = [("writer", "writer"), ("writer", "reader")]
        for kind, owner, first, second in itertools.product(kinds, owners, [False, True], [False, True]):
            house = cased(kinds=kind, owners=owner, writer_loops=first, reader_loops=second)
            why = why_not(house)
            if why is not None:
                for limit in [3000, 1, 0, None, True]:
                    self.raises(NoCase(why), lambda: not_atomic(house, limit=limit))

    def test_the_answer_of_breaking(self):
        for house in [bit(), bit("safe"), bit(size=3, start=2), careful("safe"), scanned(), scanned("safe", True),
                      empty(), empty(3, 1), two_bits("safe", "regular")]:
            found = not_atomic(house)
            self.assertIs(type(found), list)
            self.assertEqual(found, breaking(house, "atomic"))
            history = run(house, found).history
            self.assertIsNotNone(fault(history, "atomic", size=house.size, start=house.start))

    def test_never_none(self):
        counted = 0
        for seed in range(250):
            source = random.Random(seed)
            house = near_house(source) if seed % 2 else random_house(source, most_cells=2, least=seed % 3)
            why = why_not(house)
            if why is not None:
                self.raises(NoCase(why), not_atomic, house)
                continue
            try:
                found = not_atomic(house, limit=800)
            except TooMany:
                continue
            counted += 1
            self.assertIsNotNone(found)
            self.assertEqual(found, breaking(house, "atomic"))
        self.assertGreater(counted, 40)

    def test_a_new_list_each_time(self):
        house = bit()
        found = not_atomic(house)
        kept = list(found)
        found.clear()
        self.assertEqual(not_atomic(house), kept)

    def test_limits(self):
        many = reach(bit(), "atomic")
        self.assertEqual(len(not_atomic(bit(), limit=many)), 10)
        for limit in [1, many - 1]:
            self.raises(TooMany(limit), lambda: not_atomic(bit(), limit=limit))
        self.raises(TooMany(3000), not_atomic, big())
        self.raises_for_limits(lambda *, limit: not_atomic(bit(), limit=limit))
        self.raises_for_limits(lambda *, limit: not_atomic(big(), limit=limit))
        # Behind the cases.
        for limit in NO_LIMITS:
            self.raises(NoCase("atomic"), lambda: not_atomic(bit("atomic"), limit=limit))
        self.raises(BadSetting("limit"), lambda: not_atomic(empty(), limit=0))


if __name__ == "__main__":
    unittest.main()
