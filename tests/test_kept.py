import itertools
import random
import unittest

from cellsatonce.cells import Cell
from cellsatonce.errors import TooMany
from cellsatonce.histories import fault
from cellsatonce.houses import House
from cellsatonce.kept import breaking, closed, closed_fault, inversion, strongest
from cellsatonce.programs import Program
from cellsatonce.runs import Running, run
from cellsatonce.standings import first_standing, first_watch, next_standings, reach
from cellsatonce.steps import event_of, initial, moves
from helper import Case
from second import first_run, gone_from_the_first, standings_of, watch_of
from small_houses import PROMISES, big, bit, careful, empty, endless, random_house, scanned

# Of a regular bit: a read tells the new value of the write under way, and the next read the old.
INVERSION = [
    ("writer", "begin", 1), ("writer", "start", -1),
    ("reader", "begin", -1), ("reader", "start", -1), ("reader", "finish", 1), ("reader", "end", 1),
    ("reader", "begin", -1), ("reader", "start", -1), ("reader", "finish", 0), ("reader", "end", 0),
]


def liar():
    """A reader that tells what the cell has not."""
    writer = Program("writer", {}, [("write", "a", "new")])
    reader = Program("reader", {"x": (2, 0)}, [("get", "x", "a"), ("return", ("plus", "x", 1))])
    return House([Cell("a", "atomic", 2)], writer, reader)


def broken(house, history, promise):
    return fault(history, promise, size=house.size, start=house.start) is not None


def breaks(house, promise):
    """The verdict that a history breaks the promise."""
    return lambda history: "found" if broken(house, history, promise) else "on"


def inverts(house):
    """The verdict that a history breaks "atomic" and not "regular"."""
    def verdict(history):
        if not broken(house, history, "atomic"):
            return "on"
        return "off" if broken(house, history, "regular") else "found"
    return verdict


def triples_of(house, most):
    """The reached triples of a state and two watches, or some more than most of them."""
    first = (initial(house), first_watch("atomic", house.start), first_watch("regular", house.start))
    histories = {first: []}
    todo = [first]
    for triple in todo:
        for step, state in moves(house, triple[0]):
            event = event_of(step)
            history = histories[triple] + ([] if event is None else [event])
            if not broken(house, history, "atomic"):
                watches = [watch_of(history, word, house.size, house.start) for word in ["atomic", "regular"]]
                behind = (state,) + tuple(watches)
                if behind not in histories and len(todo) <= most:
                    histories[behind] = history
                    todo.append(behind)
    return todo


class BreakingTest(Case):
    """[7.1]"""

    def check_run(self, house, promise, steps):
        """The steps are a run whose last step breaks the promise, and no other."""
        self.assertIs(type(steps), list)
        for step in steps:
            self.assertIs(type(step), tuple)
        self.assertIsNotNone(event_of(steps[-1]))
        self.assertTrue(broken(house, run(house, steps).history, promise))
        self.assertFalse(broken(house, run(house, steps[:-1]).history, promise))

    def test_a_bit_of_each_kind(self):
        for kind, promise in itertools.product(PROMISES, PROMISES):
            found = breaking(bit(kind), promise)
            if PROMISES.index(kind) >= PROMISES.index(promise):
                self.assertIsNone(found)
            else:
                self.check_run(bit(kind), promise, found)

    def test_the_first_of_the_shortest_runs(self):
        # By hand: a read during a write of 1 tells 1, so that the next one must not tell 0.
        self.assertEqual(breaking(bit(), "atomic"), INVERSION)
        # A safe bit is told to be 1 while 0 is written over 0.
        found = [("writer", "begin", 0), ("writer", "start", -1), ("reader", "begin", -1),
                 ("reader", "start", -1), ("reader", "finish", 1), ("reader", "end", 1)]
        self.assertEqual(breaking(bit("safe"), "regular"), found)
        self.assertEqual(breaking(bit("safe"), "atomic"), found)
        # Without a cell: what has been written is never told.
        found = [("writer", "begin", 1), ("writer", "end", -1), ("reader", "begin", -1), ("reader", "end", 0)]
        for promise in PROMISES:
            self.assertEqual(breaking(empty(), promise), found)
        for promise in PROMISES:
            self.assertEqual(breaking(liar(), promise), [
                ("reader", "begin", -1), ("reader", "once", 0), ("reader", "end", 1)])

    def test_another_start(self):
        found = [("writer", "begin", 0), ("writer", "end", -1), ("reader", "begin", -1), ("reader", "end", 0)]
        # With the start 1, the 0 that is told at once is no value of a write.
        self.assertEqual(breaking(empty(start=1), "safe"), [("reader", "begin", -1), ("reader", "end", 0)])
        reader = Program("reader", {}, [("return", 1)])
        self.assertEqual(breaking(empty(start=1).with_programs(empty().writer, reader), "safe"), found[:3] + [
            ("reader", "end", 1)])
        self.assertIsNone(breaking(bit(size=3, start=2), "regular"))

    def test_found_a_second_way(self):
        seen = {"none": 0, "run": 0}
        for seed, promise in itertools.product(range(140), PROMISES):
            house = random_house(random.Random(seed), most_cells=2, least=seed % 3)
            try:
                found = breaking(house, promise, limit=1000)
            except TooMany:
                continue
            with self.subTest(seed=seed, promise=promise):
                if found is None:
                    expected = first_run(house, breaks(house, promise), 7)
                    self.assertIn(expected, [None, "many"])
                    seen["none"] += 1
                    continue
                self.check_run(house, promise, found)
                expected = first_run(house, breaks(house, promise), len(found))
                if expected != "many":
                    seen["run"] += 1
                    self.assertEqual(found, expected)
        self.assertGreater(min(seen.values()), 15, seen)

    def test_whether_there_is_a_break_a_second_way(self):
        seen = {True: 0, False: 0}
        houses = [bit(kind) for kind in PROMISES] + [careful(kind) for kind in PROMISES] + [endless(), empty()]
        houses += [random_house(random.Random(seed), most_cells=2, least=1) for seed in range(80)]
        for house, promise in itertools.product(houses, PROMISES):
            standings, found = gone_from_the_first(house, promise, 250)
            if len(standings) <= 250:
                self.assertEqual(breaking(house, promise) is not None, found)
                seen[found] += 1
        self.assertGreater(min(seen.values()), 20, seen)

    def test_random_runs_of_kept_houses_break_nothing(self):
        source = random.Random(1)
        for house in [bit(), careful("safe"), scanned(), scanned("safe", True)]:
            self.assertIsNone(breaking(house, "regular"))
            for _ in range(20):
                running = Running(house)
                for _ in range(100):
                    running.step(source.choice(running.choices()))
                self.assertFalse(broken(house, running.record().history, "regular"))

    def test_the_answer_is_a_new_list(self):
        house = bit()
        found = breaking(house, "atomic")
        found.clear()
        self.assertEqual(breaking(house, "atomic"), INVERSION)
        self.assertEqual(house, bit())

    def test_too_many_also_where_a_break_is_met_early(self):
        for house in [liar(), empty(), bit("safe")]:
            for promise in PROMISES:
                many = reach(house, promise)
                expected = breaking(house, promise)
                self.assertEqual(breaking(house, promise, limit=many), expected)
                for limit in [1, many - 1]:
                    self.raises(TooMany(limit), lambda: breaking(house, promise, limit=limit))
        for promise in PROMISES:
            self.raises(TooMany(3000), breaking, big(), promise)

    def test_wrong_arguments(self):
        self.raises_for_promises(lambda value: breaking(big(), value))
        self.raises_for_promises(lambda value: breaking(big(), value, limit=0))
        for promise in PROMISES:
            self.raises_for_limits(lambda *, limit: breaking(big(), promise, limit=limit))


class StrongestTest(Case):
    """[7.2]"""

    def test_each_answer(self):
        expected = [
            (bit("atomic"), "atomic"), (bit("atomic", size=4, start=3), "atomic"), (careful("atomic"), "atomic"),
            (bit(), "regular"), (careful("safe"), "regular"), (scanned(), "regular"), (bit(size=3), "regular"),
            (bit("safe"), "safe"), (scanned("safe"), "safe"),
            (empty(), "none"), (liar(), "none"), (empty(3, 2), "none"),
        ]
        for house, answer in expected:
            self.assertEqual(strongest(house), answer)

    def test_by_breaking(self):
        seen = dict.fromkeys(PROMISES + ["none"], 0)
        for seed in range(150):
            house = random_house(random.Random(seed), most_cells=1, least=seed % 3)
            try:
                found = strongest(house, limit=1000)
                kept = [promise for promise in PROMISES if breaking(house, promise) is None]
            except TooMany:
                continue
            # A house that keeps a promise keeps all later ones of the order.
            self.assertEqual(kept, PROMISES[:len(kept)])
            self.assertEqual(found, (["none"] + kept)[-1])
            seen[found] += 1
        self.assertGreater(seen["atomic"], 2)
        self.assertGreater(seen["none"], 50)

    def test_a_reader_that_never_ends_a_round(self):
        for kind in PROMISES:
            self.assertEqual(strongest(endless(kind)), "atomic")

    def test_later_promises_are_not_explored(self):
        # A reader that never ends a round keeps "atomic", though more standings are reached for
        # another promise.
        block = [("get", "x", "a"), ("while", "y", 0, [("get", "x", "a")])]
        reader = Program("reader", {"x": (2, 0), "y": (2, 0)}, block)
        house = bit().with_programs(Program("writer", {}, [("write", "a", "new")]), reader)
        many = {promise: reach(house, promise) for promise in PROMISES}
        self.assertEqual(strongest(house, limit=many["atomic"]), "atomic")
        self.raises(TooMany(many["atomic"] - 1), lambda: strongest(house, limit=many["atomic"] - 1))
        # A limit that later promises alone pass.
        later = [(house, "atomic"), (bit(), "regular"), (bit("safe"), "safe"), (empty(), "none")]
        for seed in range(120):
            house = random_house(random.Random(seed), most_cells=1, least=2)
            later.append((house, None))
        passed = 0
        for house, answer in later:
            try:
                most = [reach(house, promise, limit=400) for promise in reversed(PROMISES)]
            except TooMany:
                continue
            found = strongest(house)
            self.assertIn(answer, [None, found])
            explored = ["atomic", "regular", "safe", "none"].index(found) + 1
            enough = max(most[:explored])
            passed += max(most) > enough
            self.assertEqual(strongest(house, limit=enough), found)
            self.raises(TooMany(enough - 1), lambda: strongest(house, limit=enough - 1))
        self.assertGreater(passed, 0)

    def test_too_many(self):
        self.raises(TooMany(3000), strongest, big())
        # "atomic" is broken within the limit, and "regular" is explored next.
        self.raises(TooMany(263), lambda: strongest(bit(), limit=263))
        self.assertEqual(strongest(bit(), limit=264), "regular")

    def test_wrong_limits(self):
        self.raises_for_limits(lambda *, limit: strongest(big(), limit=limit))


class ClosedTest(Case):
    """[7.3]"""

    def test_all_reached_standings(self):
        counted = 0
        for seed, promise in itertools.product(range(80), PROMISES):
            house = random_house(random.Random(seed), most_cells=2, least=seed % 3)
            expected = standings_of(house, promise, 300)
            if len(expected) <= 300:
                counted += 1
                found = closed(house, promise)
                self.assertIs(type(found), list)
                self.assertEqual(found, sorted(expected))
                self.assertEqual(len(found), reach(house, promise))
        self.assertGreater(counted, 80)

    def test_ascending_and_each_once(self):
        for house, promise in itertools.product([bit(), bit("safe", 3), scanned("atomic"), liar()], PROMISES):
            found = closed(house, promise)
            self.assertTrue(all(low < high for low, high in zip(found, found[1:])))
            self.assertTrue(all(type(standing) is tuple and len(standing) == 2 for standing in found))

    def test_also_if_the_promise_is_broken(self):
        self.assertIsNotNone(breaking(empty(), "safe"))
        self.assertEqual(closed(empty(), "safe"), sorted(standings_of(empty(), "safe", 3000)))
        self.assertEqual(closed(empty(), "safe")[0], first_standing(empty(), "safe"))

    def test_a_new_list_each_time(self):
        found = closed(bit(), "safe")
        kept = list(found)
        found.pop()
        found.reverse()
        self.assertEqual(closed(bit(), "safe"), kept)

    def test_limits(self):
        for promise in PROMISES:
            many = reach(bit(), promise)
            self.assertEqual(len(closed(bit(), promise, limit=many)), many)
            self.raises(TooMany(many - 1), lambda: closed(bit(), promise, limit=many - 1))
            self.raises(TooMany(3000), closed, big(), promise)

    def test_wrong_arguments(self):
        self.raises_for_promises(lambda value: closed(big(), value))
        self.raises_for_promises(lambda value: closed(big(), value, limit=0))
        self.raises_for_limits(lambda *, limit: closed(big(), "safe", limit=limit))


class ClosedFaultTest(Case):
    """[7.4], [7.5]"""

    def test_kept_houses(self):
        for house in [bit("atomic"), bit(), bit("safe"), careful("safe"), scanned("safe"), endless()]:
            for promise in PROMISES:
                if breaking(house, promise) is None:
                    self.assertIsNone(closed_fault(house, promise, closed(house, promise)))

    def test_first(self):
        house = bit()
        for promise in PROMISES:
            standings = closed(house, promise)
            first = first_standing(house, promise)
            self.assertEqual(closed_fault(house, promise, []), ("first",))
            self.assertEqual(closed_fault(house, promise, ()), ("first",))
            rest = [standing for standing in standings if standing != first]
            self.assertEqual(closed_fault(house, promise, rest), ("first",))
            self.assertEqual(closed_fault(house, promise, rest[:3]), ("first",))

    def test_first_ahead_of_all_else(self):
        # The row begins with a standing from which a step breaks the promise.
        standings = closed(liar(), "safe")
        first = first_standing(liar(), "safe")
        rest = [standing for standing in standings if standing != first]
        bad = [standing for standing in rest if None in dict(next_standings(liar(), "safe", standing)).values()]
        self.assertEqual(closed_fault(liar(), "safe", bad + rest), ("first",))
        found = closed_fault(liar(), "safe", bad + rest + [first])
        self.assertEqual(found[:2], ("breaks", 0))

    def test_lacks(self):
        house = bit()
        first = first_standing(house, "safe")
        self.assertEqual(closed_fault(house, "safe", [first]), ("lacks", 0, ("writer", "begin", 0)))
        begun = dict(next_standings(house, "safe", first))
        row = [first, begun[("writer", "begin", 0)]]
        self.assertEqual(closed_fault(house, "safe", row), ("lacks", 0, ("writer", "begin", 1)))
        row = [first] + list(begun.values())
        self.assertEqual(closed_fault(house, "safe", row), ("lacks", 1, ("writer", "start", -1)))
        self.assertEqual(closed_fault(house, "safe", row[1:] + row[:1]), ("lacks", 0, ("writer", "start", -1)))
        self.assertEqual(closed_fault(house, "safe", [first, first]), ("lacks", 0, ("writer", "begin", 0)))

    def test_each_one_that_lacks(self):
        for house, promise in [(bit(), "regular"), (careful("safe"), "regular"), (bit("atomic"), "atomic")]:
            standings = closed(house, promise)
            first = first_standing(house, promise)
            for at, gone in enumerate(standings):
                row = standings[:at] + standings[at + 1:]
                found = closed_fault(house, promise, row)
                if gone == first:
                    self.assertEqual(found, ("first",))
                    continue
                expected = None
                for index, standing in enumerate(row):
                    for step, behind in next_standings(house, promise, standing):
                        if behind == gone and expected is None:
                            expected = ("lacks", index, step)
                self.assertEqual(found, expected)

    def test_breaks(self):
        for house, promise in [(bit(), "atomic"), (bit("safe"), "regular"), (empty(), "safe"), (liar(), "atomic")]:
            standings = closed(house, promise)
            for row in [standings, standings[::-1], tuple(standings), standings + standings]:
                word, index, step = closed_fault(house, promise, row)
                self.assertEqual(word, "breaks")
                self.assertIsNone(dict(next_standings(house, promise, row[index]))[step])
                # No earlier step breaks it.
                for standing in row[:index]:
                    self.assertNotIn(None, dict(next_standings(house, promise, standing)).values())
                for other, behind in next_standings(house, promise, row[index]):
                    if other == step:
                        break
                    self.assertIsNotNone(behind)

    def test_whichever_comes_first(self):
        house = empty()
        at_rest = (0, -1, (), -1)
        telling = (3, -1, (), 0)
        # Behind a write of 1, the read will tell 0, and the writer can go on.
        bad = ((at_rest, telling, ()), (1, -1, 1))
        first = first_standing(house, "safe")
        self.assertIn(bad, closed(house, "safe"))
        self.assertEqual(closed_fault(house, "safe", [bad, first]), ("lacks", 0, ("writer", "begin", 0)))
        behind = [standing for _, standing in next_standings(house, "safe", bad) if standing is not None]
        row = [bad, first] + behind
        self.assertEqual(closed_fault(house, "safe", row), ("breaks", 0, ("reader", "end", 0)))
        row = [first, bad] + behind
        self.assertEqual(closed_fault(house, "safe", row), ("lacks", 0, ("writer", "begin", 0)))

    def test_a_row_for_another_promise_order_or_number(self):
        house = careful("safe")
        standings = closed(house, "regular")
        source = random.Random(5)
        for _ in range(5):
            source.shuffle(standings)
            self.assertIsNone(closed_fault(house, "regular", standings))
            self.assertIsNone(closed_fault(house, "regular", tuple(standings)))
            self.assertIsNone(closed_fault(house, "regular", standings + standings[:7] + standings[::-1]))

    def test_standings_of_a_house_with_other_starts(self):
        for promise in PROMISES:
            house = bit("atomic", 3)
            for start in [1, 2]:
                other = bit("atomic", 3, start)
                row = closed(other, promise)
                first = first_standing(house, promise)
                found = closed_fault(house, promise, row)
                self.assertEqual(found, None if first in row else ("first",))
                self.assertIsNone(closed_fault(house, promise, row + closed(house, promise)))
                self.assertIsNone(closed_fault(other, promise, row))
        # The reader tells its variable, and starts with another value of it.
        writer = Program("writer", {}, [])
        readers = [Program("reader", {"x": (2, start)}, [("return", "x")]) for start in [0, 1]]
        houses = [House([], writer, reader) for reader in readers]
        row = closed(houses[0], "safe") + closed(houses[1], "safe")
        self.assertEqual(closed_fault(houses[0], "safe", closed(houses[1], "safe")), ("first",))
        self.assertEqual(closed_fault(houses[1], "safe", row)[0], "breaks")

    def test_none_for_a_row_means_kept(self):
        # Whatever row there is: without a fault, the house keeps the promise.
        source = random.Random(2)
        for seed, promise in itertools.product(range(120), PROMISES):
            house = random_house(random.Random(seed), most_cells=1, least=1)
            try:
                row = closed(house, promise, limit=200)
            except TooMany:
                continue
            kept = breaking(house, promise) is None
            self.assertEqual(closed_fault(house, promise, row) is None, kept)
            for _ in range(3):
                part = source.sample(row, len(row) - source.choice([0, 1, 1, 2]) % len(row))
                if closed_fault(house, promise, part) is None:
                    self.assertTrue(kept)
                    self.assertEqual(sorted(part), row)

    def test_the_row_stays(self):
        row = closed(bit(), "safe")[::-1]
        kept = list(row)
        closed_fault(bit(), "safe", row)
        self.assertEqual(row, kept)
        row.pop()
        self.assertIsNotNone(closed_fault(bit(), "safe", row))

    def test_wrong_promises(self):
        row = closed(bit(), "safe")
        self.raises_for_promises(lambda value: closed_fault(bit(), value, row))
        self.raises_for_promises(lambda value: closed_fault(bit(), value, []))
        self.raises_for_promises(lambda value: closed_fault(bit(), value, None))


class InversionTest(Case):
    """[7.6]"""

    def check(self, house, steps):
        self.assertIs(type(steps), list)
        history = run(house, steps).history
        self.assertTrue(broken(house, history, "atomic"))
        self.assertFalse(broken(house, history, "regular"))
        before = run(house, steps[:-1]).history
        self.assertFalse(broken(house, before, "atomic"))
        self.assertEqual(event_of(steps[-1])[0], "told")

    def test_houses_with_an_inversion(self):
        self.assertEqual(inversion(bit()), INVERSION)
        for house in [bit(), bit("safe"), bit(size=3), careful("safe"), careful(), scanned("safe", True)]:
            self.check(house, inversion(house))

    def test_houses_without_one(self):
        # Houses that keep "atomic", and houses that break "regular" and "atomic" only together.
        for house in [bit("atomic"), careful("atomic"), endless(), empty()]:
            self.assertIsNone(inversion(house))

    def test_a_break_of_regular_is_not_followed(self):
        # With a safe cell the shortest break of "atomic" breaks "regular", too.
        self.assertEqual(len(breaking(bit("safe"), "atomic")), 6)
        self.assertEqual(len(inversion(bit("safe"))), 10)

    def test_found_a_second_way(self):
        seen = {"none": 0, "run": 0}
        houses = [random_house(random.Random(seed), most_cells=2, least=seed % 3) for seed in range(250)]
        for house in houses + [bit("safe", size=3), careful("safe"), bit("regular", 3, 1)]:
            try:
                found = inversion(house, limit=800)
            except TooMany:
                continue
            if found is None:
                self.assertIn(first_run(house, inverts(house), 6), [None, "many"])
                seen["none"] += 1
                continue
            self.check(house, found)
            expected = first_run(house, inverts(house), len(found))
            if expected != "many":
                self.assertEqual(found, expected)
                seen["run"] += 1
        self.assertGreater(seen["none"], 50)
        self.assertGreater(seen["run"], 2)

    def test_limits_by_triples(self):
        counted = 0
        houses = [random_house(random.Random(seed), most_cells=2, least=seed % 3) for seed in range(60)]
        for house in [bit(), bit("safe"), bit("atomic"), empty(), liar(), endless()] + houses:
            many = len(triples_of(house, 500))
            if many <= 500:
                counted += 1
                found = inversion(house, limit=many)
                self.assertEqual(found, inversion(house))
                for limit in {1, many - 1}:
                    if 0 < limit < many:
                        self.raises(TooMany(limit), lambda: inversion(house, limit=limit))
        self.assertGreater(counted, 25)
        # More triples than standings.
        self.assertGreater(len(triples_of(bit("safe"), 500)), reach(bit("safe"), "atomic"))
        self.raises(TooMany(3000), inversion, big())

    def test_the_answer_is_a_new_list(self):
        house = bit()
        inversion(house).clear()
        self.assertEqual(inversion(house), INVERSION)

    def test_wrong_limits(self):
        self.raises_for_limits(lambda *, limit: inversion(big(), limit=limit))


if __name__ == "__main__":
    unittest.main()
