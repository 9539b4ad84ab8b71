import itertools
import random
import unittest

from cellsatonce.cells import Cell
from cellsatonce.errors import BadSetting, TooMany
from cellsatonce.houses import House
from cellsatonce.programs import Program
from cellsatonce.runs import Running, run
from cellsatonce.steps import initial, moves
from cellsatonce.waits import longest, states, waits
from helper import NO_LIMITS, ODD_VALUES, Case
from second import Twin
from small_houses import (
    PROMISES, big, bit, careful, empty, endless, near_house, random_house, read_alone, scanned, two_bits, write_alone,
)

NO_SIDES = ODD_VALUES + ["Writer", "writer ", "both", "safe", 0, 1, ["writer"], ("reader",), {"writer": 1}]
NO_CHOICES = [value for value in ODD_VALUES if value is not True and value is not False] + [0, 1, "True", "", [True]]
OWN = ["start", "finish", "once"]


def states_of(house, most):
    """All reached states, or some more than most of them."""
    found = [initial(house)]
    known = {initial(house)}
    for state in found:
        for _, behind in moves(house, state):
            if behind not in known and len(found) <= most:
                known.add(behind)
                found.append(behind)
    return found


def round_moves(house, side, most):
    """For each reached state the moves that neither begin nor end a round of the side."""
    return {state: [(step, behind) for step, behind in moves(house, state)
                    if step[0] != side or step[1] in OWN] for state in states_of(house, most)}


def led_to_by(ways, goals, side):
    """The states from which steps of the other side, if any, and then an own step lead to a goal."""
    found = {state for state, pairs in ways.items()
             for step, behind in pairs if step[0] == side and behind in goals}
    before = {}
    for state, pairs in ways.items():
        for step, behind in pairs:
            if step[0] != side:
                before.setdefault(behind, []).append(state)
    todo = list(found)
    for state in todo:
        for origin in before.get(state, []):
            if origin not in found:
                found.add(origin)
                todo.append(origin)
    return found


def longest_of(house, side, most=3000):
    """The greatest number of own steps, by asking for one own step more again and again."""
    ways = round_moves(house, side, most)
    goals = set(ways)
    for many in itertools.count():
        further = led_to_by(ways, goals, side)
        if len(further) == 0:
            return many
        if further == goals:
            return None
        goals = further & goals


def can_go_on_alone(house, side, most=3000):
    """True if the side can make own steps for ever while the other one does nothing."""
    ways = round_moves(house, side, most)
    goals = set(ways)
    while True:
        further = {state for state in goals
                   if any(step[0] == side and behind in goals for step, behind in ways[state])}
        if further == goals:
            return len(goals) > 0
        goals = further


def looped(kind):
    """A reader that gets the cell twice, again and again as long as the values differ."""
    reader = Program("reader", {"x": (2, 0), "y": (2, 0)}, [
        ("get", "x", "a"), ("get", "y", "a"),
        ("while", "x", ("plus", "y", 1), [("get", "x", "a"), ("get", "y", "a")]),
        ("return", "x"),
    ])
    return House([Cell("a", kind, 2)], Program("writer", {}, [("write", "a", "new")]), reader)


class StatesTest(Case):
    """[10.1]"""

    def test_by_hand(self):
        # Each side is at rest or in phase 3, the writer with 0 or 1.
        writers = [(0, -1, (), -1), (3, -1, (), 0), (3, -1, (), 1)]
        readers = [(0, -1, (), -1), (3, -1, (), 0)]
        expected = [(writer, reader, ()) for writer in writers for reader in readers]
        self.assertEqual(states(empty()), expected)

    def test_a_second_way(self):
        counted = 0
        for seed in range(250):
            house = random_house(random.Random(seed), most_cells=2, least=seed % 3)
            expected = states_of(house, 400)
            if len(expected) <= 400:
                counted += 1
                found = states(house)
                self.assertIs(type(found), list)
                self.assertEqual(found, sorted(expected))
                self.assertEqual(states(house, limit=len(found)), found)
                if len(found) > 1:
                    self.raises(TooMany(len(found) - 1), lambda: states(house, limit=len(found) - 1))
        self.assertGreater(counted, 100)

    def test_each_state_of_a_run_is_among_them(self):
        source = random.Random(3)
        for house in [bit("safe"), two_bits("regular", "safe"), careful("atomic"), scanned("safe", True)]:
            found = states(house)
            running, twin = Running(house), Twin(house)
            for _ in range(200):
                step = source.choice(running.choices())
                running.step(step)
                twin.step(step)
                self.assertIn(running.record().state, found)
                self.assertIn(twin.state(), found)
            self.assertEqual(found, sorted(found))
            self.assertEqual(len(found), len(set(found)))

    def test_a_new_list_each_time(self):
        house = bit()
        found = states(house)
        kept = list(found)
        found.clear()
        self.assertEqual(states(house), kept)
        self.assertEqual(len(kept), 116)
        self.assertEqual(house, bit())

    def test_limits(self):
        self.raises(TooMany(115), lambda: states(bit(), limit=115))
        self.raises(TooMany(1), lambda: states(bit(), limit=1))
        self.assertEqual(len(states(bit(), limit=116)), 116)
        self.raises(TooMany(3000), states, big())
        self.raises_for_limits(lambda *, limit: states(big(), limit=limit))
        self.raises_for_limits(lambda *, limit: states(empty(), limit=limit))


class ArgumentsTest(Case):
    """[10.1]: the order of checks"""

    def test_wrong_sides(self):
        for value in NO_SIDES:
            with self.subTest(side=str(value)[:40]):
                for house in [big(), bit()]:
                    self.raises(BadSetting("side"), longest, house, value)
                    self.raises(BadSetting("side"), waits, house, value)
                self.raises(BadSetting("side"), lambda: longest(big(), value, limit=0))
                self.raises(BadSetting("side"), lambda: waits(big(), value, limit=0))
                self.raises(BadSetting("side"), lambda: waits(big(), value, alone=0, limit=0))
                self.raises(BadSetting("side"), lambda: waits(big(), value, alone=None))

    def test_wrong_choices_of_alone(self):
        for value in NO_CHOICES:
            with self.subTest(alone=str(value)[:40]):
                for side in ["writer", "reader"]:
                    self.raises(BadSetting("alone"), lambda: waits(bit(), side, alone=value))
                    self.raises(BadSetting("alone"), lambda: waits(big(), side, alone=value))
                    self.raises(BadSetting("alone"), lambda: waits(big(), side, alone=value, limit=0))

    def test_wrong_limits(self):
        for side in ["writer", "reader"]:
            for house in [bit(), big()]:
                self.raises_for_limits(lambda *, limit: longest(house, side, limit=limit))
                self.raises_for_limits(lambda *, limit: waits(house, side, limit=limit))
                self.raises_for_limits(lambda *, limit: waits(house, side, alone=True, limit=limit))
        self.assertGreater(len(NO_LIMITS), 20)

    def test_too_many(self):
        for side in ["writer", "reader"]:
            self.raises(TooMany(3000), longest, big(), side)
            self.raises(TooMany(3000), waits, big(), side)
            for house in [bit(), looped("atomic"), endless()]:
                many = len(states(house))
                self.assertEqual(longest(house, side, limit=many), longest(house, side))
                self.raises(TooMany(many - 1), lambda: longest(house, side, limit=many - 1))
                for alone in [True, False]:
                    found = waits(house, side, alone=alone)
                    self.assertEqual(waits(house, side, alone=alone, limit=many) is None, found is None)
                    self.raises(TooMany(many - 1), lambda: waits(house, side, alone=alone, limit=many - 1))


class LongestTest(Case):
    """[10.2]"""

    def both(self, house):
        return [longest(house, "writer"), longest(house, "reader")]

    def test_gets_and_writes(self):
        self.assertEqual(self.both(bit()), [2, 2])
        self.assertEqual(self.both(bit("safe")), [2, 2])
        self.assertEqual(self.both(bit("atomic")), [1, 1])
        self.assertEqual(self.both(two_bits("safe", "atomic")), [3, 3])
        self.assertEqual(self.both(careful()), [2, 2])
        self.assertEqual(self.both(scanned("atomic")), [2, 2])

    def test_programs_without_gets_and_writes(self):
        self.assertEqual(self.both(empty()), [0, 0])
        self.assertEqual(self.both(read_alone({"x": (2, 0)}, [("set", "x", 1), ("return", "x")])), [0, 0])
        house = write_alone({"x": (2, 0)}, [("if", "x", "new", [("set", "x", 1)], [])])
        self.assertEqual(self.both(house), [0, 0])

    def test_the_longest_of_several_ways(self):
        cells = [Cell("a", "atomic", 3), Cell("b", "safe", 2)]
        block = [("get", "x", "a"), ("if", "x", 2, [("get", "y", "b")] * 2, [("get", "y", "a")]), ("return", "x")]
        store = {"x": (3, 0), "y": (2, 0)}
        house = read_alone(store, block, cells=cells)
        # The cell a is 0 for ever.
        self.assertEqual(self.both(house), [0, 2])
        writer = Program("writer", {}, [("write", "a", "new")])
        self.assertEqual(self.both(House(cells, writer, house.reader, size=2)), [1, 2])
        self.assertEqual(self.both(House(cells, writer, house.reader, size=3)), [1, 5])

    def test_ways_that_meet_again(self):
        # Behind the "if" nothing tells that more steps than one were made.
        cells = [Cell("a", "atomic", 2), Cell("b", "atomic", 2)]
        block = [("get", "x", "a"), ("if", "x", 1, [("get", "y", "b")] * 3, []), ("set", "x", 0), ("get", "y", "b")]
        reader = Program("reader", {"x": (2, 0), "y": (2, 0)}, block)
        self.assertEqual(self.both(House(cells, bit().writer, reader)), [1, 5])
        # The short way is there from the first round on, and the long one only in later rounds.
        block = [("if", "n", 0, [("set", "n", 1)], [("get", "y", "b")] * 6), ("get", "y", "b")]
        house = read_alone({"n": (2, 0), "y": (2, 0)}, block, cells=cells[1:])
        self.assertEqual(self.both(house), [0, 7])

    def test_steps_of_the_other_side_in_between(self):
        # The two gets differ only if the writer writes in between.
        reader = Program("reader", {"x": (2, 0), "y": (2, 0)}, [
            ("get", "x", "a"), ("get", "y", "a"), ("if", "x", ("plus", "y", 1), [("get", "x", "a")] * 2, [])])
        self.assertEqual(self.both(bit("atomic").with_programs(bit().writer, reader)), [1, 4])
        self.assertEqual(self.both(bit("safe").with_programs(bit().writer, reader)), [2, 8])
        # It can do so once only, as it writes the same value for ever.
        writer = Program("writer", {}, [("write", "a", 1)])
        self.assertEqual(self.both(bit("atomic").with_programs(writer, reader)), [1, 4])

    def test_loops_that_end(self):
        # The variable is 0 when the first round begins alone.
        cells = [Cell("a", "regular", 2)]
        block = [("while", "x", 0, [("get", "y", "a"), ("set", "x", 1)]), ("get", "y", "a")]
        house = read_alone({"x": (2, 0), "y": (2, 0)}, block, cells=cells)
        self.assertEqual(self.both(house), [0, 4])
        for many in [1, 2, 3]:
            store = {"n": (4, 4 - many), "x": (2, 0), "y": (2, 0)}
            body = [("get", "y", "a"), ("set", "n", ("plus", "n", 1)), ("if", "n", 0, [("set", "x", 1)], [])]
            for kind, own in [("atomic", 1), ("safe", 2)]:
                house = read_alone(store, [("while", "x", 0, body)], cells=[Cell("a", kind, 2)])
                self.assertEqual(self.both(house), [0, own * many])
        # A loop within a loop: 3 times 4 gets, and one more each time.
        inner = [("get", "y", "a"), ("set", "m", ("plus", "m", 1)), ("if", "m", 0, [("set", "y", 1)], [])]
        body = [("set", "y", 0), ("while", "y", 0, inner), ("get", "y", "a"), ("set", "n", ("plus", "n", 1)),
                ("if", "n", 0, [("set", "x", 1)], [])]
        store = {"m": (4, 0), "n": (3, 0), "x": (2, 0), "y": (2, 0)}
        house = read_alone(store, [("while", "x", 0, body)], cells=[Cell("a", "atomic", 2)])
        self.assertEqual(self.both(house), [0, 15])

    def test_rounds_without_an_end(self):
        for kind in PROMISES:
            self.assertEqual(self.both(endless(kind)), [0, None])
        # The other side alone can bring it about.
        self.assertEqual(self.both(looped("atomic")), [1, None])
        house = write_alone({"x": (2, 0)}, [("while", "x", "new", [("write", "a", 0)])], cells=[Cell("a", "safe", 2)])
        self.assertEqual(self.both(house), [None, 0])

    def test_a_round_that_never_ends_but_makes_few_steps_counts(self):
        # The round of the writer need not end: its steps count as far as they are made.
        self.assertEqual(longest(bit(), "writer", limit=116), 2)

    def test_rounds_of_the_other_side_do_not_count(self):
        # The other side can go round and round meanwhile.
        house = two_bits("atomic", "atomic")
        self.assertEqual(self.both(house), [2, 2])
        house = bit().with_programs(Program("writer", {}, [("write", "a", "new")] * 5), bit().reader)
        self.assertEqual(self.both(house), [10, 2])

    def test_a_second_way(self):
        seen = {"none": 0, "zero": 0, "more": 0}
        for seed in range(180):
            source = random.Random(seed)
            house = random_house(source, most_cells=2, least=seed % 4) if seed % 3 else near_house(source)
            if len(states_of(house, 400)) > 400:
                continue
            for side in ["writer", "reader"]:
                found = longest(house, side)
                self.assertEqual(found, longest_of(house, side))
                seen["none" if found is None else "more" if found > 0 else "zero"] += 1
        self.assertGreater(min(seen.values()), 8, seen)

    def test_no_round_of_a_run_is_longer(self):
        source = random.Random(11)
        for house in [bit(), two_bits("safe", "regular"), careful(), scanned("safe", True), looped("safe")]:
            bounds = {side: longest(house, side) for side in ["writer", "reader"]}
            running = Running(house)
            counts = {"writer": 0, "reader": 0}
            for _ in range(600):
                step = source.choice(running.choices())
                running.step(step)
                side, word, _ = step
                counts[side] = counts[side] + 1 if word in OWN else 0
                if bounds[side] is not None:
                    self.assertLessEqual(counts[side], bounds[side])


class WaitsTest(Case):
    """[10.3]"""

    def check(self, house, side, alone):
        """A pair, with all that is promised of it."""
        pair = waits(house, side, alone=alone)
        self.assertIs(type(pair), tuple)
        self.assertEqual(len(pair), 2)
        ahead, turn = pair
        self.assertEqual([type(ahead), type(turn)], [list, list])
        self.assertEqual({type(step) for step in ahead + turn}, {tuple})
        running = Running(house)
        met = [running.record().state]
        for step in ahead:
            running.step(step)
            met.append(running.record().state)
        self.assertEqual(len(met), len(set(met)))
        start = met[-1]
        met = []
        for step in turn:
            running.step(step)
            met.append(running.record().state)
        self.assertEqual(met[-1], start)
        self.assertEqual(len(met), len(set(met)))
        own = [step[1] for step in turn if step[0] == side]
        self.assertGreater(len(own), 0)
        self.assertLessEqual(set(own), set(OWN))
        if alone:
            self.assertEqual(len(own), len(turn))
        self.assertEqual(run(house, ahead + turn * 3).state, start)

    def each(self, house, side, expected, expected_alone):
        for alone, there in [(False, expected), (True, expected_alone)]:
            if there:
                self.check(house, side, alone)
            else:
                self.assertIsNone(waits(house, side, alone=alone))
        self.assertEqual(longest(house, side) is None, expected)

    def test_rounds_that_end(self):
        for house in [bit(), bit("atomic"), empty(), careful(), scanned(), two_bits()]:
            for side in ["writer", "reader"]:
                self.each(house, side, False, False)

    def test_a_round_that_goes_on_alone(self):
        for kind in PROMISES:
            self.each(endless(kind), "reader", True, True)
            self.each(endless(kind), "writer", False, False)
        house = write_alone({"x": (2, 0)}, [("while", "x", "new", [("write", "a", 0)])], cells=[Cell("a", "safe", 2)])
        self.each(house, "writer", True, True)
        self.each(house, "reader", False, False)

    def test_one_step_that_leads_back_at_once(self):
        ahead, turn = waits(endless("atomic"), "reader", alone=True)
        self.assertEqual(turn, [("reader", "once", 0)])
        self.assertEqual(ahead, [("reader", "begin", -1)])
        self.assertEqual(waits(endless("atomic"), "reader")[1], turn)

    def test_a_round_that_goes_on_only_if_the_other_side_does(self):
        # With an atomic cell, the values differ only if the writer writes in between.
        self.each(looped("atomic"), "reader", True, False)
        # With a regular one it is enough that a write is under way.
        self.each(looped("regular"), "reader", True, True)
        self.each(looped("safe"), "reader", True, True)

    def test_a_round_that_waits_for_the_other_side(self):
        # The reader waits until the cell is 1; the writer may write 0 for ever, or nothing at all.
        reader = Program("reader", {"x": (2, 0)}, [
            ("set", "x", 0), ("while", "x", 0, [("get", "x", "a")]), ("return", "x")])
        house = bit("atomic").with_programs(bit().writer, reader)
        self.each(house, "reader", True, True)
        self.each(house, "writer", False, False)
        # The writer waits until the reader, which takes turns, has been there.
        cells = [Cell("a", "atomic", 2, owner="reader")]
        writer = Program("writer", {"x": (2, 0)}, [("set", "x", 0), ("while", "x", 0, [("get", "x", "a")])])
        for term, alone in [(1, True), (0, True)]:
            house = House(cells, writer, Program("reader", {}, [("write", "a", term)]))
            self.each(house, "writer", True, alone)

    def test_turns_of_own_steps_within_a_round_alone(self):
        # Rounds that begin and end for ever are no such turn.
        house = read_alone({"x": (2, 0)}, [("get", "x", "a")], cells=[Cell("a", "atomic", 2)])
        self.each(house, "reader", False, False)
        # Nor are turns of the other side alone, while the round does nothing.
        house = bit("atomic")
        self.each(house, "reader", False, False)
        # Other steps may stand in a turn, begins and ends of the other side among them.
        ahead, turn = waits(looped("atomic"), "reader")
        self.assertIn("begin", [step[1] for step in turn if step[0] == "writer"])
        self.assertIn("end", [step[1] for step in turn if step[0] == "writer"])

    def test_a_second_way(self):
        seen = {(first, second): 0 for first in [True, False] for second in [True, False]}
        for seed in range(200):
            source = random.Random(seed)
            house = random_house(source, most_cells=2, least=seed % 4) if seed % 3 else near_house(source)
            if len(states_of(house, 400)) > 400:
                continue
            for side in ["writer", "reader"]:
                expected = longest_of(house, side) is None
                expected_alone = can_go_on_alone(house, side)
                self.each(house, side, expected, expected_alone)
                seen[expected, expected_alone] += 1
        self.assertGreater(seen[False, False], 50)
        self.assertGreater(seen[True, True], 8)
        self.assertEqual(seen[False, True], 0)

    def test_both_sides_may_be_in_a_round_without_an_end(self):
        cells = [Cell("a", "safe", 2), Cell("b", "regular", 2, owner="reader")]
        writer = Program("writer", {"x": (2, 0)}, [("while", "x", 0, [("get", "x", "b")])])
        reader = Program("reader", {"y": (2, 0)}, [("while", "y", 0, [("get", "y", "a")])])
        house = House(cells, writer, reader)
        for side in ["writer", "reader"]:
            self.each(house, side, True, True)

    def test_each_answer_is_new(self):
        house = endless()
        ahead, turn = waits(house, "reader")
        kept = (list(ahead), list(turn))
        ahead.clear()
        turn.clear()
        self.assertEqual(waits(house, "reader"), kept)
        self.assertEqual(house, endless())

    def test_alone_at_first_is_false(self):
        self.assertIsNotNone(waits(looped("atomic"), "reader"))
        self.assertIsNone(waits(looped("atomic"), "reader", alone=True))


if __name__ == "__main__":
    unittest.main()
