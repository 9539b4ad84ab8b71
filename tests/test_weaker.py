import copy
import itertools
import random
import unittest

from cellsatonce.cells import Cell
from cellsatonce.errors import BadLot, BadPromise, NoPromise, NotLeast, TooMany
from cellsatonce.histories import fault
from cellsatonce.houses import House
from cellsatonce.kept import breaking, closed, closed_fault
from cellsatonce.programs import Program
from cellsatonce.runs import run
from cellsatonce.standings import first_standing, reach
from cellsatonce.weaker import lot_paper, paper_fault, weaker_lots
from helper import NO_PROMISES, ODD_VALUES, Case
from small_houses import (
    KINDS, PROMISES, big, bit, careful, either, empty, endless, lots, near_house, scanned, two_bits,
)


def silent(*kinds):
    """A house of cells that are not used, with a reader that never ends a round."""
    cells = [Cell("abcd"[index], kind, 2) for index, kind in enumerate(kinds)] + [Cell("z", "safe", 2)]
    reader = Program("reader", {"x": (2, 0)}, [("while", "x", 0, [("get", "x", "z")])])
    return House(cells, Program("writer", {}, []), reader)


def keeps(house, promise):
    return breaking(house, promise) is None


def at_or_below(lot, other):
    return all(KINDS.index(low) <= KINDS.index(high) for low, high in zip(lot, other))


def least_lots(house, promise):
    """The weakest lots by trying all, in the order of their ranks."""
    enough = {lot for lot in lots(house) if keeps(house.with_kinds(lot), promise)}
    least = [lot for lot in enough if [other for other in enough if at_or_below(other, lot)] == [lot]]
    return sorted(least, key=lambda lot: [KINDS.index(kind) for kind in lot])


def kept_houses(many, most=300):
    """Houses with a promise that they keep, all lots of which have few standings."""
    for seed in range(many):
        house = near_house(random.Random(seed))
        for promise in PROMISES:
            try:
                for lot in lots(house):
                    reach(house.with_kinds(lot), promise, limit=most)
            except TooMany:
                continue
            if keeps(house, promise):
                yield house, promise


class WeakerLotsTest(Case):
    """[8.1] to [8.3]"""

    def test_one_cell(self):
        expected = {
            ("safe", "safe"): [("safe",)], ("safe", "regular"): None, ("safe", "atomic"): None,
            ("regular", "safe"): [("safe",)], ("regular", "regular"): [("regular",)], ("regular", "atomic"): None,
            ("atomic", "safe"): [("safe",)], ("atomic", "regular"): [("regular",)],
            ("atomic", "atomic"): [("atomic",)],
        }
        for (kind, promise), answer in expected.items():
            if answer is None:
                self.raises(NoPromise(), weaker_lots, bit(kind), promise)
            else:
                self.assertEqual(weaker_lots(bit(kind), promise), answer)
        for kind in KINDS:
            self.assertEqual(weaker_lots(careful(kind), "regular"), [("safe",)])
            self.assertEqual(weaker_lots(endless(kind), "atomic"), [("safe",)])

    def test_no_cell(self):
        # Without a cell nothing that is written is ever told, so that no promise is kept.
        for size, promise in itertools.product([2, 3], PROMISES):
            house = empty(size)
            self.raises(NoPromise(), weaker_lots, house, promise)
            # The one lot is ().
            for lot in [(), []]:
                self.raises(NoPromise(), lot_paper, house, promise, lot)
                standings = closed(house, promise)
                self.assertEqual(paper_fault(house, promise, lot, (standings, []))[1][0], "breaks")
            for lot in [["safe"], None]:
                self.raises(BadLot(), lot_paper, house, promise, lot)

    def test_several_cells(self):
        self.assertEqual(weaker_lots(scanned("safe", True), "regular"), [("safe", "safe")])
        self.assertEqual(weaker_lots(scanned("atomic"), "regular"), [("regular", "regular")])
        self.assertEqual(weaker_lots(scanned("regular"), "safe"), [("safe", "safe")])
        self.assertEqual(weaker_lots(two_bits(), "regular"), [("safe", "regular")])
        self.assertEqual(weaker_lots(two_bits("atomic", "atomic"), "regular"), [("safe", "regular")])
        self.assertEqual(weaker_lots(two_bits("atomic", "atomic"), "atomic"), [("safe", "atomic")])
        self.assertEqual(weaker_lots(silent("atomic", "regular", "atomic"), "atomic"), [("safe",) * 4])

    def test_several_weakest_lots(self):
        # One of the two cells that are 0 for ever has to be stronger than safe.
        house = either("regular", "regular", "regular")
        self.assertEqual(weaker_lots(house, "regular"), [
            ("regular", "safe", "regular"), ("regular", "regular", "safe")])
        self.assertEqual(weaker_lots(house, "safe"), [("safe", "safe", "regular"), ("safe", "regular", "safe")])
        self.assertEqual(weaker_lots(house, "regular"), least_lots(house, "regular"))
        house = either("safe", "atomic", "atomic")
        self.assertEqual(weaker_lots(house, "safe"), [("safe", "safe", "regular"), ("safe", "regular", "safe")])
        house = either("atomic", "safe", "atomic")
        self.assertEqual(weaker_lots(house, "regular"), [("regular", "safe", "regular")])

    def test_a_second_way(self):
        counted = 0
        for house, promise in kept_houses(100):
            found = weaker_lots(house, promise)
            self.assertIs(type(found), list)
            self.assertEqual(found, least_lots(house, promise))
            for lot in found:
                self.assertIs(type(lot), tuple)
                for below in lots(house.with_kinds(lot)):
                    self.assertEqual(keeps(house.with_kinds(below), promise), below == lot)
            counted += 1
        self.assertGreater(counted, 20)

    def test_what_a_lot_keeps_is_kept_by_all_above(self):
        for house, promise in kept_houses(100):
            for low, high in itertools.product(lots(house), repeat=2):
                if at_or_below(low, high) and keeps(house.with_kinds(low), promise):
                    self.assertTrue(keeps(house.with_kinds(high), promise))

    def test_a_new_list_each_time(self):
        house = careful()
        weaker_lots(house, "safe").clear()
        self.assertEqual(weaker_lots(house, "safe"), [("safe",)])
        self.assertEqual(house, careful())

    def test_all_lots_are_explored(self):
        # For "regular" a safe bit has 192 standings, and a regular one 176.
        house = bit()
        most = reach(house.with_kinds(["safe"]), "regular")
        self.assertGreater(most, reach(house, "regular"))
        self.assertEqual(weaker_lots(house, "regular", limit=most), [("regular",)])
        self.raises(TooMany(most - 1), lambda: weaker_lots(house, "regular", limit=most - 1))
        # Also the lots below one that breaks the promise already.
        house = two_bits("atomic", "atomic")
        many = [reach(house.with_kinds(lot), "atomic") for lot in lots(house)]
        self.assertEqual(weaker_lots(house, "atomic", limit=max(many)), [("safe", "atomic")])
        self.raises(TooMany(max(many) - 1), lambda: weaker_lots(house, "atomic", limit=max(many) - 1))

    def test_each_lot_counts_for_the_limit(self):
        for house, promise in list(kept_houses(100))[:40]:
            many = max(reach(house.with_kinds(lot), promise) for lot in lots(house))
            self.assertEqual(weaker_lots(house, promise, limit=many), weaker_lots(house, promise))
            if many > 1:
                self.raises(TooMany(many - 1), lambda: weaker_lots(house, promise, limit=many - 1))

    def test_the_house_is_explored_ahead_of_its_lots(self):
        # It breaks the promise within the limit that a lot of it passes.
        house = bit().with_programs(bit().writer, Program("reader", {"x": (2, 0)}, [
            ("get", "x", "a"), ("return", ("plus", "x", 1))]))
        many = reach(house, "regular")
        self.assertGreater(reach(house.with_kinds(["safe"]), "regular"), many)
        self.raises(NoPromise(), lambda: weaker_lots(house, "regular", limit=many))
        self.raises(TooMany(many - 1), lambda: weaker_lots(house, "regular", limit=many - 1))
        self.raises(TooMany(3000), weaker_lots, big(), "safe")

    def test_wrong_arguments(self):
        self.raises_for_promises(lambda value: weaker_lots(big(), value))
        self.raises_for_promises(lambda value: weaker_lots(empty(), value, limit=0))
        self.raises_for_limits(lambda *, limit: weaker_lots(big(), "safe", limit=limit))
        self.raises_for_limits(lambda *, limit: weaker_lots(empty(), "safe", limit=limit))


class LotsTest(Case):
    """[8.4]: what is no lot"""

    def each(self, call):
        """The call raises BadLot for each lot that is none of a house with an atomic and a safe cell."""
        wrong = ODD_VALUES + ["safe", "aa", 2, ["safe"], ["safe"] * 3, ("atomic",), ["atomic", "regular"],
                              ["safe", "atomic"], ["regular", "regular"], ("safe", "Safe"), ["none", "safe"],
                              ["safe", None], [["safe"], "safe"], [0, 0], {"safe": 1, "atomic": 2}, [("safe",)] * 2]
        wrong += [[value, "safe"] for value in ODD_VALUES] + [("safe", value) for value in ODD_VALUES]
        for lot in wrong:
            with self.subTest(lot=str(lot)[:40]):
                self.raises(BadLot(), call, lot)

    def test_wrong_lots(self):
        house = two_bits("atomic", "safe")
        paper = lot_paper(house, "safe", ("safe", "safe"))
        self.each(lambda lot: lot_paper(house, "safe", lot))
        self.each(lambda lot: paper_fault(house, "safe", lot, paper))
        # Ahead of the limit, and of all exploring.
        self.each(lambda lot: lot_paper(house, "safe", lot, limit=0))
        self.each(lambda lot: lot_paper(house, "safe", lot, limit=1))
        self.each(lambda lot: paper_fault(house, "safe", lot, ([], [])))

    def test_a_promise_comes_first(self):
        house = two_bits("atomic", "safe")
        for value in NO_PROMISES:
            for lot in [None, ["safe"], ["atomic", "atomic"], ["safe", "safe"]]:
                self.raises(BadPromise(), lot_paper, house, value, lot)
                self.raises(BadPromise(), lambda: lot_paper(house, value, lot, limit=0))
                self.raises(BadPromise(), paper_fault, house, value, lot, ([], []))

    def test_right_lots(self):
        house = two_bits("atomic", "regular")
        for lot in lots(house):
            for row in [lot, list(lot)]:
                self.assertEqual(paper_fault(house, "safe", row, ([], [])), ("kept", ("first",)))


class LotPaperTest(Case):
    """[8.5]"""

    def check(self, house, promise, lot):
        paper = lot_paper(house, promise, lot)
        self.assertEqual([type(paper), type(paper[0]), type(paper[1])], [tuple, list, list])
        self.assertEqual(len(paper), 2)
        self.assertEqual(paper[0], closed(house.with_kinds(lot), promise))
        self.assertEqual([index for index, _ in paper[1]], [at for at, kind in enumerate(lot) if kind != "safe"])
        for pair in paper[1]:
            self.assertIs(type(pair), tuple)
            index, steps = pair
            kinds = list(lot)
            kinds[index] = KINDS[KINDS.index(kinds[index]) - 1]
            self.assertIs(type(steps), list)
            self.assertEqual(steps, breaking(house.with_kinds(kinds), promise))
        self.assertIsNone(paper_fault(house, promise, lot, paper))
        self.assertIsNone(paper_fault(house, promise, list(lot), [tuple(paper[0]), [list(pair) for pair in paper[1]]]))

    def test_papers_of_weakest_lots(self):
        for house, promise in [
            (bit(), "regular"), (bit("atomic"), "regular"), (bit("atomic"), "atomic"), (careful("atomic"), "regular"),
            (scanned("atomic"), "regular"), (two_bits("atomic", "atomic"), "atomic"),
            (either("atomic", "regular", "regular"), "regular"),
        ]:
            for lot in weaker_lots(house, promise):
                self.check(house, promise, lot)

    def test_random_houses(self):
        counted = 0
        for house, promise in kept_houses(100):
            for lot in weaker_lots(house, promise):
                self.check(house, promise, lot)
                counted += 1
        self.assertGreater(counted, 10)

    def test_a_cell_is_weaker_by_one_rank(self):
        # With a regular cell, "atomic" breaks later than with a safe one.
        steps = lot_paper(bit("atomic"), "atomic", ["atomic"])[1][0][1]
        self.assertEqual(len(steps), 10)
        self.assertEqual(len(lot_paper(bit("atomic"), "regular", ("regular",))[1][0][1]), 6)

    def test_the_lot_does_not_keep(self):
        self.raises(NoPromise(), lot_paper, bit(), "regular", ["safe"])
        self.raises(NoPromise(), lot_paper, bit(), "atomic", ["regular"])
        self.raises(NoPromise(), lot_paper, bit("atomic"), "atomic", ("regular",))
        self.raises(NoPromise(), lot_paper, two_bits(), "regular", ("regular", "safe"))

    def test_the_house_need_not_keep(self):
        # The house itself breaks nothing that the lot keeps, but only the lot is explored.
        house = careful("atomic")
        many = reach(house.with_kinds(["safe"]), "regular")
        self.assertEqual(len(lot_paper(house, "regular", ["safe"], limit=many)[0]), many)
        self.raises(TooMany(many - 1), lambda: lot_paper(house, "regular", ["safe"], limit=many - 1))
        house = House([Cell("a", "atomic", 4), Cell("b", "safe", 2)], endless().writer,
                      Program("reader", {"x": (2, 0)}, [("while", "x", 0, [("get", "x", "b")])]))
        self.assertEqual(lot_paper(house, "atomic", ("safe", "safe"))[1], [])

    def test_not_least(self):
        self.raises(NotLeast(0), lot_paper, bit("atomic"), "regular", ["atomic"])
        self.raises(NotLeast(0), lot_paper, careful(), "regular", ["regular"])
        self.raises(NotLeast(0), lot_paper, bit(), "safe", ["regular"])
        self.raises(NotLeast(0), lot_paper, two_bits(), "regular", ("regular", "regular"))
        self.raises(NotLeast(1), lot_paper, two_bits("regular", "atomic"), "regular", ("safe", "atomic"))
        self.raises(NotLeast(1), lot_paper, silent("safe", "regular", "regular"), "atomic",
                    ("safe", "regular", "regular", "safe"))
        self.raises(NotLeast(2), lot_paper, silent("safe", "regular", "regular"), "atomic",
                    ("safe", "safe", "regular", "safe"))
        # Both cells may be weaker, and the first one is named.
        self.raises(NotLeast(0), lot_paper, two_bits("atomic", "atomic"), "regular", ("atomic", "atomic"))

    def test_the_order_of_the_exploring(self):
        house = two_bits("atomic", "atomic")
        many = {lot: reach(house.with_kinds(lot), "regular") for lot in lots(house)}
        lot = ("atomic", "atomic")
        first, second = many[("regular", "atomic")], many[("atomic", "regular")]
        self.assertLess(many[lot], min(first, second))
        # The lot itself comes first, and then its cells in order.
        self.raises(TooMany(many[lot] - 1), lambda: lot_paper(house, "regular", lot, limit=many[lot] - 1))
        self.raises(TooMany(many[lot]), lambda: lot_paper(house, "regular", lot, limit=many[lot]))
        self.raises(NotLeast(0), lambda: lot_paper(house, "regular", lot, limit=first))
        # Of a lot that does not keep the promise, nothing else is explored.
        lot = ("safe", "safe")
        self.raises(NoPromise(), lambda: lot_paper(house, "regular", lot, limit=many[lot]))
        self.raises(TooMany(many[lot] - 1), lambda: lot_paper(house, "regular", lot, limit=many[lot] - 1))
        # A cell that may be weaker is named ahead of the exploring of the next one.
        mirrored = House(house.cells[::-1], house.writer, house.reader)
        for tried in [house, mirrored]:
            for row in [("atomic", "atomic"), ("regular", "atomic"), ("atomic", "regular")]:
                kinds = [list(row), list(row)]
                for at in (0, 1):
                    kinds[at][at] = KINDS[KINDS.index(row[at]) - 1]
                counts = [reach(tried.with_kinds(lower), "regular") for lower in [row] + kinds]
                for limit in sorted({count - less for count in counts for less in (0, 1)}):
                    expected = self.expected_error(tried, row, kinds, counts, limit)
                    if expected is None:
                        self.assertEqual(len(lot_paper(tried, "regular", row, limit=limit)[1]), 2)
                    else:
                        self.raises(expected, lambda: lot_paper(tried, "regular", row, limit=limit))

    def expected_error(self, house, row, kinds, counts, limit):
        if counts[0] > limit:
            return TooMany(limit)
        if not keeps(house.with_kinds(row), "regular"):
            return NoPromise()
        for at in (0, 1):
            if counts[at + 1] > limit:
                return TooMany(limit)
            if keeps(house.with_kinds(kinds[at]), "regular"):
                return NotLeast(at)
        return None

    def test_the_lot_stays_and_each_answer_is_new(self):
        lot = ["regular"]
        house = bit("atomic")
        paper = lot_paper(house, "regular", lot)
        self.assertEqual(lot, ["regular"])
        before = copy.deepcopy(paper)
        paper[0].clear()
        paper[1][0][1].clear()
        paper[1].clear()
        lot.clear()
        self.assertEqual(lot_paper(house, "regular", ["regular"]), before)

    def test_wrong_limits(self):
        self.raises_for_limits(lambda *, limit: lot_paper(big(), "safe", ["safe", "safe"], limit=limit))
        self.raises_for_limits(lambda *, limit: lot_paper(bit(), "regular", ["safe"], limit=limit))


class PaperFaultTest(Case):
    """[8.6]"""

    def setUp(self):
        self.house = bit("atomic")
        self.lot = ["regular"]
        self.standings, self.runs = lot_paper(self.house, "regular", self.lot)
        self.steps = self.runs[0][1]

    def fault(self, standings, runs):
        return paper_fault(self.house, "regular", self.lot, (standings, runs))

    def with_steps(self, steps):
        return self.fault(self.standings, [(0, steps)])

    def test_no_fault(self):
        self.assertIsNone(self.fault(self.standings, self.runs))
        self.assertIsNone(self.fault(tuple(self.standings[::-1]), tuple(self.runs)))
        self.assertIsNone(self.fault(self.standings + self.standings, [[0, tuple(self.steps)]]))
        self.assertIsNone(self.with_steps([list(step) for step in self.steps]))

    def test_kept(self):
        house = self.house.with_kinds(self.lot)
        for row in [[], self.standings[1:], self.standings[:-1], self.standings[:20] + self.standings[21:]]:
            found = closed_fault(house, "regular", row)
            self.assertIsNotNone(found)
            # Ahead of all other faults.
            for runs in [self.runs, [], [(1, [])], [(0, [])], [(0, [None])]]:
                self.assertEqual(self.fault(row, runs), ("kept", found))
        # A lot that does not keep the promise.
        row = closed(bit("safe"), "regular")
        found = paper_fault(self.house, "regular", ["safe"], (row, []))
        self.assertEqual(found, ("kept", closed_fault(bit("safe"), "regular", row)))
        self.assertEqual(found[1][0], "breaks")

    def test_the_standings_are_those_of_the_lot(self):
        row = closed(bit("atomic"), "regular")
        self.assertEqual(self.fault(row, self.runs)[0], "kept")
        row = closed(bit(), "safe")
        self.assertEqual(paper_fault(self.house, "safe", ["regular"], (row, []))[0], "runs")

    def test_runs(self):
        for runs in [[], (), [(1, self.steps)], [(-1, self.steps)], [(0, self.steps)] * 2,
                     [(0, self.steps), (1, self.steps)], [(1, []), (0, self.steps)], [(10 ** 39, [None])]]:
            self.assertEqual(self.fault(self.standings, runs), ("runs",))
        # A safe cell has no run.
        row = closed(bit("safe"), "safe")
        self.assertIsNone(paper_fault(self.house, "safe", ["safe"], (row, [])))
        self.assertEqual(paper_fault(self.house, "safe", ["safe"], (row, [(0, self.steps)])), ("runs",))

    def test_runs_in_order(self):
        house = scanned("atomic")
        lot = ("regular", "regular")
        standings, runs = lot_paper(house, "regular", lot)
        self.assertEqual([index for index, _ in runs], [0, 1])
        self.assertIsNone(paper_fault(house, "regular", lot, (standings, runs)))
        for wrong in [runs[::-1], runs[:1], runs[1:], [runs[0], runs[0]], runs + [(2, [])]]:
            self.assertEqual(paper_fault(house, "regular", lot, (standings, wrong)), ("runs",))
            # Ahead of a wrong run.
            spoilt = [(index, []) for index, _ in wrong]
            self.assertEqual(paper_fault(house, "regular", lot, (standings, spoilt)), ("runs",))
        for wrong, index in [([(0, []), runs[1]], 0), ([runs[0], (1, [])], 1), ([(0, []), (1, [])], 0),
                             ([(0, runs[1][1]), runs[1]], 0), ([runs[0], (1, runs[0][1])], 1)]:
            self.assertEqual(paper_fault(house, "regular", lot, (standings, wrong)), ("run", index))

    def test_the_index_of_the_cell_not_of_the_pair(self):
        house = two_bits("atomic", "atomic")
        standings, runs = lot_paper(house, "atomic", ("safe", "atomic"))
        self.assertEqual([index for index, _ in runs], [1])
        found = paper_fault(house, "atomic", ("safe", "atomic"), (standings, [(1, [])]))
        self.assertEqual(found, ("run", 1))

    def test_runs_that_do_not_break_at_their_end(self):
        self.assertEqual(self.with_steps([]), ("run", 0))
        self.assertEqual(self.with_steps(()), ("run", 0))
        for many in range(len(self.steps)):
            self.assertEqual(self.with_steps(self.steps[:many]), ("run", 0))
        # The break is not the last step.
        self.assertEqual(self.with_steps(self.steps + [("reader", "begin", -1)]), ("run", 0))
        self.assertEqual(self.with_steps(self.steps + [("writer", "finish", -1)]), ("run", 0))
        # The last step would break, too, but it is not the first one that does.
        again = [("reader", "begin", -1)] + self.steps[3:]
        self.assertIsNotNone(run(bit("safe"), self.steps + again))
        self.assertEqual(self.with_steps(self.steps + again), ("run", 0))

    def test_what_is_no_run(self):
        self.assertEqual(self.with_steps(self.steps[1:]), ("run", 0))
        self.assertEqual(self.with_steps(self.steps[:-2] + self.steps[-1:]), ("run", 0))
        self.assertEqual(self.with_steps(self.steps[:-1] + [("reader", "end", 0)]), ("run", 0))
        self.assertEqual(self.with_steps(self.steps + [None]), ("run", 0))
        for value in ODD_VALUES:
            self.assertEqual(self.with_steps([value]), ("run", 0))
            self.assertEqual(self.with_steps(self.steps[:-1] + [value]), ("run", 0))
            self.assertEqual(self.with_steps(self.steps + [value]), ("run", 0))
            self.assertEqual(self.with_steps([("writer", "begin", value)]), ("run", 0))
            self.assertEqual(self.with_steps(self.steps[:-1] + [("reader", "end", value)]), ("run", 0))
        # True is no value of a step.
        steps = self.steps[:-1] + [("reader", "end", True)]
        self.assertEqual(self.steps[-1], ("reader", "end", 1))
        self.assertEqual(self.with_steps(steps), ("run", 0))

    def test_a_run_of_another_house(self):
        # A run that breaks "atomic" with a regular cell keeps "regular".
        steps = breaking(bit(), "atomic")
        self.assertEqual(self.with_steps(steps), ("run", 0))
        standings, runs = lot_paper(self.house, "atomic", ["atomic"])
        self.assertIsNone(paper_fault(self.house, "atomic", ["atomic"], (standings, runs)))
        # A run of a safe cell that no regular one has.
        wrong = (standings, [(0, self.steps)])
        self.assertEqual(paper_fault(self.house, "atomic", ["atomic"], wrong), ("run", 0))

    def test_any_such_run_will_do(self):
        # A longer one: a whole round of the writer goes ahead.
        ahead = [("writer", "begin", 0), ("writer", "start", -1), ("writer", "finish", -1), ("writer", "end", -1)]
        self.assertIsNone(self.with_steps(ahead + self.steps))
        self.assertIsNone(self.with_steps(ahead * 30 + self.steps))
        # Another one: the reader begins ahead of the writer.
        steps = [self.steps[2]] + self.steps[:2] + self.steps[3:]
        self.assertNotEqual(steps, self.steps)
        self.assertIsNone(self.with_steps(steps))
        self.assertIsNone(self.with_steps(ahead * 200 + self.steps))

    def test_a_long_run_of_the_package(self):
        found = breaking(scanned("atomic"), "atomic")
        self.assertEqual(len(found), 16)
        self.assertIsNotNone(fault(run(scanned("atomic"), found).history, "atomic", size=3))

    def test_the_paper_stays(self):
        paper = [list(self.standings), [[0, [list(step) for step in self.steps]]]]
        before = copy.deepcopy(paper)
        self.assertIsNone(paper_fault(self.house, "regular", self.lot, paper))
        self.assertEqual(paper, before)
        paper[1][0][1].pop()
        self.assertEqual(paper_fault(self.house, "regular", self.lot, paper), ("run", 0))
        self.assertEqual(paper_fault(self.house, "regular", self.lot, before), None)

    def test_a_paper_without_a_fault_is_of_a_weakest_lot(self):
        for house, promise in list(kept_houses(80)) + [(bit("atomic"), "regular"), (careful("atomic"), "safe")]:
            weakest = weaker_lots(house, promise)
            for lot in lots(house):
                standings = closed(house.with_kinds(lot), promise)
                runs = []
                for index, kind in enumerate(lot):
                    if kind != "safe":
                        kinds = list(lot)
                        kinds[index] = KINDS[KINDS.index(kind) - 1]
                        runs.append((index, breaking(house.with_kinds(kinds), promise) or []))
                found = paper_fault(house, promise, lot, (standings, runs))
                self.assertEqual(found is None, lot in weakest)
                self.assertIn(first_standing(house.with_kinds(lot), promise), standings)


if __name__ == "__main__":
    unittest.main()
