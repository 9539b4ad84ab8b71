import itertools
import random
import unittest

from cellsatonce.cells import Cell
from cellsatonce.errors import BadPromise, BadSetting, TooMany
from cellsatonce.histories import earliest, fault, may_tell
from cellsatonce.houses import House
from cellsatonce.programs import Program
from cellsatonce.runs import Running
from cellsatonce.standings import first_standing, first_watch, next_standings, next_watch, reach
from cellsatonce.steps import event_of, initial, moves
from helper import NO_LIMITS, NO_PROMISES, Case
from second import standings_of, watch_of
from small_houses import PROMISES, big, bit, empty, random_house


def watched(promise, history, start=0):
    """The watch behind a history, or None from the break on."""
    watch = first_watch(promise, start)
    for event in history:
        watch = None if watch is None else next_watch(promise, watch, event)
    return watch


def can_stand(history):
    """The events that can stand behind a history with values up to 3."""
    words = [event[0] for event in history]
    writing, reading = words.count("write") > words.count("wrote"), words.count("read") > words.count("told")
    events = [("wrote",)] if writing else [("write", value) for value in range(4)]
    return events + ([("told", value) for value in range(4)] if reading else [("read",)])


class FirstWatchTest(Case):
    """[6.2] `first_watch`"""

    def test_first_watches(self):
        for start in range(4):
            self.assertEqual(first_watch("safe", start), (start, -1, 0))
            self.assertEqual(first_watch("regular", start), (start, -1, ()))
            self.assertEqual(first_watch("atomic", start), (start, -1, 0, ()))

    def test_wrong_promises(self):
        for value in NO_PROMISES:
            self.raises(BadPromise(), first_watch, value, 0)


class TableCase(Case):
    """The cells of the table of [6.2]"""

    def each(self, promise, rows):
        for watch, event, expected in rows:
            with self.subTest(watch=watch, event=event):
                for row in [event, list(event)]:
                    answer = next_watch(promise, watch, row)
                    self.assertEqual(answer, expected)
                    self.assertIs(type(answer), type(expected))


class SafeTest(TableCase):
    def test_write(self):
        self.each("safe", [
            ((0, -1, 0), ("write", 1), (0, 1, 0)),
            ((0, -1, 1), ("write", 1), (0, 1, 2)),
            ((0, -1, 2), ("write", 1), (0, 1, 2)),
            ((3, -1, 1), ("write", 3), (3, 3, 2)),
            ((3, -1, 0), ("write", 0), (3, 0, 0)),
        ])

    def test_wrote(self):
        self.each("safe", [
            ((0, 1, 0), ("wrote",), (1, -1, 0)),
            ((0, 1, 2), ("wrote",), (1, -1, 2)),
            ((2, 0, 2), ("wrote",), (0, -1, 2)),
        ])

    def test_read(self):
        self.each("safe", [
            ((2, -1, 0), ("read",), (2, -1, 1)),
            ((2, 3, 0), ("read",), (2, 3, 2)),
            ((2, 0, 0), ("read",), (2, 0, 2)),
            ((2, 2, 0), ("read",), (2, 2, 2)),
        ])

    def test_told(self):
        self.each("safe", [
            ((2, -1, 1), ("told", 2), (2, -1, 0)),
            ((2, -1, 1), ("told", 1), None),
            ((0, -1, 1), ("told", 1), None),
            ((2, -1, 2), ("told", 2), (2, -1, 0)),
            ((2, -1, 2), ("told", 0), (2, -1, 0)),
            ((2, 1, 2), ("told", 3), (2, 1, 0)),
            ((2, 0, 2), ("told", 2), (2, 0, 0)),
        ])


class RegularTest(TableCase):
    def test_write(self):
        self.each("regular", [
            ((0, -1, ()), ("write", 1), (0, 1, ())),
            ((0, -1, (0,)), ("write", 1), (0, 1, (0, 1))),
            ((2, -1, (2,)), ("write", 0), (2, 0, (0, 2))),
            ((2, -1, (0, 3)), ("write", 1), (2, 1, (0, 1, 3))),
            # A value that several writes have stands once.
            ((1, -1, (0, 1)), ("write", 1), (1, 1, (0, 1))),
            ((1, -1, (1,)), ("write", 1), (1, 1, (1,))),
        ])

    def test_wrote(self):
        self.each("regular", [
            ((0, 1, ()), ("wrote",), (1, -1, ())),
            ((0, 1, (0, 1)), ("wrote",), (1, -1, (0, 1))),
            ((3, 0, (0, 3)), ("wrote",), (0, -1, (0, 3))),
        ])

    def test_read(self):
        self.each("regular", [
            ((2, -1, ()), ("read",), (2, -1, (2,))),
            ((0, -1, ()), ("read",), (0, -1, (0,))),
            ((2, 3, ()), ("read",), (2, 3, (2, 3))),
            ((2, 0, ()), ("read",), (2, 0, (0, 2))),
            ((2, 2, ()), ("read",), (2, 2, (2,))),
        ])

    def test_told(self):
        self.each("regular", [
            ((2, -1, (2,)), ("told", 2), (2, -1, ())),
            ((2, -1, (2,)), ("told", 1), None),
            ((2, 1, (1, 2)), ("told", 1), (2, 1, ())),
            ((2, 1, (1, 2)), ("told", 2), (2, 1, ())),
            ((2, 1, (1, 2)), ("told", 0), None),
            # Neither the last value nor the one under way need be among the values.
            ((3, -1, (0, 1)), ("told", 3), None),
            ((3, -1, (0, 1)), ("told", 0), (3, -1, ())),
        ])


class AtomicTest(TableCase):
    def test_write(self):
        self.each("atomic", [
            ((0, -1, 0, ()), ("write", 1), (0, 1, 0, ())),
            ((0, -1, 2, (0,)), ("write", 1), (0, 1, 2, (0,))),
            ((0, -1, 2, (0, 2)), ("write", 0), (0, 0, 2, (0, 2))),
        ])

    def test_wrote(self):
        self.each("atomic", [
            ((0, 1, 0, ()), ("wrote",), (1, -1, 0, ())),
            ((0, 1, 1, ()), ("wrote",), (1, -1, 0, ())),
            ((0, 1, 2, (0,)), ("wrote",), (1, -1, 2, (0, 1))),
            ((0, 1, 2, ()), ("wrote",), (1, -1, 2, (1,))),
            ((3, 0, 2, (1, 3)), ("wrote",), (0, -1, 2, (0, 1, 3))),
            ((1, 1, 2, (0, 1)), ("wrote",), (1, -1, 2, (0, 1))),
        ])

    def test_read(self):
        self.each("atomic", [
            ((2, -1, 0, ()), ("read",), (2, -1, 2, (2,))),
            ((2, 3, 0, ()), ("read",), (2, 3, 2, (2,))),
            ((2, 3, 1, ()), ("read",), (2, 3, 2, ())),
            ((2, 2, 1, ()), ("read",), (2, 2, 2, ())),
        ])

    def test_told(self):
        self.each("atomic", [
            ((2, -1, 2, (2,)), ("told", 2), (2, -1, 0, ())),
            ((2, -1, 2, (2,)), ("told", 1), None),
            ((2, -1, 2, (0, 2)), ("told", 0), (2, -1, 0, ())),
            ((2, 1, 2, (2,)), ("told", 2), (2, 1, 0, ())),
            ((2, 1, 2, (2,)), ("told", 1), (2, 1, 1, ())),
            ((2, 1, 2, (2,)), ("told", 0), None),
            ((2, 1, 2, ()), ("told", 1), (2, 1, 1, ())),
            ((2, 1, 2, ()), ("told", 2), None),
            # The value under way that is in ended, too, counts as ended.
            ((2, 2, 2, (2,)), ("told", 2), (2, 2, 0, ())),
            ((0, 1, 2, (0, 1)), ("told", 1), (0, 1, 0, ())),
            ((2, 2, 2, ()), ("told", 2), (2, 2, 1, ())),
        ])

    def test_example(self):
        self.assertEqual(next_watch("atomic", (0, 1, 2, (0,)), ("told", 1)), (0, 1, 1, ()))


class NextWatchTest(Case):
    """[6.2], [6.3] over whole histories"""

    def test_a_read_that_begins_while_a_write_is_under_way(self):
        history = [("write", 1), ("read",)]
        self.assertEqual([watched(promise, history) for promise in PROMISES],
                         [(0, 1, 2), (0, 1, (0, 1)), (0, 1, 2, (0,))])
        history.append(("wrote",))
        self.assertEqual([watched(promise, history) for promise in PROMISES],
                         [(1, -1, 2), (1, -1, (0, 1)), (1, -1, 2, (0, 1))])

    def test_a_new_value_and_then_the_old_one(self):
        history = [("write", 1), ("read",), ("told", 1), ("read",), ("told", 0)]
        self.assertEqual(watched("atomic", history[:4]), (0, 1, 2, ()))
        self.assertIsNone(watched("atomic", history))
        self.assertEqual(watched("regular", history), (0, 1, ()))
        self.assertEqual(watched("safe", history), (0, 1, 0))

    def test_a_value_that_several_writes_have(self):
        # The second write of 1 is not needed for the first read, so that the second may tell 0.
        history = [("read",), ("write", 1), ("wrote",), ("write", 0), ("wrote",), ("write", 1), ("told", 1),
                   ("read",), ("told", 0)]
        self.assertEqual(watched("atomic", history[:6]), (0, 1, 2, (0, 1)))
        self.assertEqual(watched("atomic", history), (0, 1, 0, ()))

    def test_random_histories(self):
        # A history is broken just where fault says so, and its watches are those of a second reading.
        for promise, seed in itertools.product(PROMISES, range(250)):
            source = random.Random(seed)
            start = source.randrange(4)
            history, watch = [], first_watch(promise, start)
            for _ in range(40):
                events = can_stand(history)
                for event in events:
                    broken = fault(history + [event], promise, size=4, start=start) is not None
                    self.assertEqual(next_watch(promise, watch, event) is None, broken)
                kept = [event for event in events if next_watch(promise, watch, event) is not None]
                history.append(source.choice(kept))
                watch = next_watch(promise, watch, history[-1])
                with self.subTest(promise=promise, history=history):
                    self.assertEqual(watch, watch_of(history, promise, 4, start))

    def test_what_a_read_may_tell(self):
        for promise, seed in itertools.product(PROMISES, range(60)):
            source = random.Random(seed)
            history, watch = [], first_watch(promise, 0)
            while len(history) < 30:
                event = source.choice(can_stand(history))
                behind = next_watch(promise, watch, event)
                if behind is not None:
                    history.append(event)
                    watch = behind
                if ("told", 0) in can_stand(history):
                    told = [value for value in range(4) if next_watch(promise, watch, ("told", value)) is not None]
                    self.assertEqual(told, may_tell(history, promise, size=4))

    def test_all_short_histories(self):
        histories = [[]]
        for history in histories:
            if len(history) < 5:
                histories.extend([history + [event] for event in can_stand(history) if (event + (0,))[1] < 2])
        for history, promise, start in itertools.product(histories, PROMISES, range(2)):
            if fault(history, promise, start=start) is None:
                self.assertEqual(watched(promise, history, start), watch_of(history, promise, 2, start))
            else:
                self.assertIsNone(watched(promise, history, start))

    def test_the_modes_of_atomic_by_the_numbers_of_writes(self):
        for seed in range(60):
            source = random.Random(seed)
            history, watch = [], first_watch("atomic", 0)
            while len(history) < 30:
                event = source.choice(can_stand(history))
                behind = next_watch("atomic", watch, event)
                if behind is None:
                    continue
                history.append(event)
                watch = behind
                words = [event[0] for event in history]
                if watch[2] != 2 and "told" in words:
                    ended = earliest(history, size=4)[-1] <= words.count("wrote")
                    self.assertEqual(watch[2], 0 if ended else 1)

    def test_wrong_promises_ahead_of_everything_else(self):
        for value in NO_PROMISES:
            self.raises(BadPromise(), next_watch, value, (0, -1, 0), ("read",))
            self.raises(BadPromise(), next_watch, value, None, None)

    def test_what_is_passed_stays(self):
        event = ["write", 1]
        watch = (0, -1, (0,))
        self.assertEqual(next_watch("regular", watch, event), (0, 1, (0, 1)))
        self.assertEqual((watch, event), ((0, -1, (0,)), ["write", 1]))


class StandingsTest(Case):
    """[6.4]"""

    def test_the_first_standing(self):
        house = bit(size=3, start=2)
        state = initial(house)
        self.assertEqual(first_standing(house, "safe"), (state, (2, -1, 0)))
        self.assertEqual(first_standing(house, "regular"), (state, (2, -1, ())))
        self.assertEqual(first_standing(house, "atomic"), (state, (2, -1, 0, ())))
        # The start of the house and not of a cell.
        house = House([Cell("a", "safe", 4, 3)], Program("writer", {}, []), Program("reader", {}, []), start=1)
        self.assertEqual(first_standing(house, "safe"), (initial(house), (1, -1, 0)))

    def test_pairs_in_the_order_of_moves(self):
        for promise, seed in itertools.product(PROMISES, range(80)):
            source = random.Random(seed)
            house = random_house(source)
            standing = first_standing(house, promise)
            for _ in range(40):
                pairs = next_standings(house, promise, standing)
                self.assertIs(type(pairs), list)
                expected = []
                for step, state in moves(house, standing[0]):
                    event = event_of(step)
                    watch = standing[1] if event is None else next_watch(promise, standing[1], event)
                    expected.append((step, None if watch is None else (state, watch)))
                self.assertEqual(pairs, expected)
                standing = source.choice([standing for _, standing in pairs if standing is not None] or [standing])

    def test_a_break_stands_in_the_list(self):
        house = bit("safe")
        standing = first_standing(house, "regular")
        steps = [("writer", "begin", 0), ("writer", "start", -1), ("reader", "begin", -1), ("reader", "start", -1),
                 ("reader", "finish", 1)]
        for step in steps:
            standing = dict(next_standings(house, "regular", standing))[step]
        self.assertEqual(standing[1], (0, 0, (0,)))
        writing = ((3, -1, (), 0), standing[0][1], ((0, -1, ()),))
        self.assertEqual(next_standings(house, "regular", standing), [
            (("writer", "finish", -1), (writing, (0, 0, (0,)))),
            (("reader", "end", 1), None),
        ])

    def test_a_step_without_an_event_leaves_the_watch(self):
        house = bit()
        for promise in PROMISES:
            standing = first_standing(house, promise)
            for step in [("writer", "begin", 1), ("reader", "begin", -1)]:
                standing = dict(next_standings(house, promise, standing))[step]
            for step in [("writer", "start", -1), ("reader", "start", -1), ("reader", "finish", 1)]:
                behind = dict(next_standings(house, promise, standing))[step]
                self.assertEqual(behind[1], standing[1])
                self.assertNotEqual(behind[0], standing[0])
                standing = behind

    def test_a_changed_list_changes_no_later_answer(self):
        house = bit()
        standing = first_standing(house, "safe")
        pairs = next_standings(house, "safe", standing)
        kept = list(pairs)
        pairs.clear()
        self.assertEqual(next_standings(house, "safe", standing), kept)
        self.assertEqual(standing, first_standing(house, "safe"))

    def test_pairs_are_tuples(self):
        standing = first_standing(bit(), "safe")
        self.assertIs(type(standing), tuple)
        for pair in next_standings(bit(), "safe", standing):
            self.assertEqual([type(pair), type(pair[0]), type(pair[1])], [tuple] * 3)

    def test_wrong_promises(self):
        house = bit()
        for value in NO_PROMISES:
            self.raises(BadPromise(), first_standing, house, value)
            self.raises(BadPromise(), next_standings, house, value, first_standing(house, "safe"))
            self.raises(BadPromise(), next_standings, house, value, None)

    def test_a_run_is_broken_just_where_its_history_is(self):
        for promise, seed in itertools.product(PROMISES, range(120)):
            source = random.Random(seed)
            house = random_house(source)
            standing, running = first_standing(house, promise), Running(house)
            for _ in range(50):
                step, behind = source.choice(next_standings(house, promise, standing))
                running.step(step)
                history = running.record().history
                found = fault(history, promise, size=house.size, start=house.start)
                self.assertEqual(behind is None, found is not None)
                if behind is None:
                    break
                standing = behind
                self.assertEqual(standing[0], running.record().state)
                self.assertEqual(standing[1], watch_of(history, promise, house.size, house.start))


class ReachTest(Case):
    """[6.5], [6.6]"""

    def test_counted_by_hand(self):
        # Without a cell, the state follows from the watch: the writer is at rest or in phase 3
        # with the value under way, and the reader is at rest or in phase 3 as long as it reads.
        # There are six pairs (last, under): two for each of no value, 0 and 1 under way.
        house = empty()
        # Mode 0 and mode 2 go with each pair, and mode 1 with the two where no write is under way.
        self.assertEqual(reach(house, "safe"), 6 + 6 + 2)
        # No values, or all values, or one value, where last and under do not differ.
        self.assertEqual(reach(house, "regular"), 6 + 6 + 4)
        # Mode 0 goes with each pair, and mode 2 with both values ended or last alone. Mode 1, and
        # mode 2 with no value ended, need a read of the 0 under way, and so a 1 ahead of it.
        self.assertEqual(reach(house, "atomic"), 6 + 12 + 1 + 1)

    def test_counted_a_second_way(self):
        counted = 0
        for seed in range(150):
            house = random_house(random.Random(seed), most_cells=2, least=seed % 3)
            for promise in PROMISES:
                many = len(standings_of(house, promise, 300))
                with self.subTest(seed=seed, promise=promise):
                    if many > 300:
                        self.raises(TooMany(300), lambda: reach(house, promise, limit=300))
                    else:
                        counted += 1
                        self.assertEqual(reach(house, promise, limit=300), many)
                        self.assertEqual(reach(house, promise), many)
        self.assertGreater(counted, 200)

    def test_a_broken_promise_ends_a_way_and_no_more(self):
        # A bit that is told wrong at once breaks "safe", yet the rest is counted.
        wrong = Program("reader", {}, [("return", 1)])
        house = House([], Program("writer", {}, []), wrong)
        for promise in PROMISES:
            self.assertEqual(reach(house, promise), len(standings_of(house, promise, 3000)))
            self.assertGreater(reach(house, promise), 5)

    def test_limits(self):
        for house, promise in itertools.product([empty(), bit(), bit("atomic")], PROMISES):
            many = reach(house, promise)
            for limit in [many, many + 1, 3000]:
                self.assertEqual(reach(house, promise, limit=limit), many)
            for limit in [1, 2, many - 2, many - 1]:
                self.raises(TooMany(limit), lambda: reach(house, promise, limit=limit))

    def test_limit_one(self):
        for house in [empty(), bit()]:
            self.raises(TooMany(1), lambda: reach(house, "safe", limit=1))

    def test_too_many_also_behind_a_break(self):
        # The promise is broken by the second step of a run.
        house = House([], Program("writer", {}, []), Program("reader", {}, [("return", 1)]))
        for promise in PROMISES:
            self.raises(TooMany(4), lambda: reach(house, promise, limit=4))

    def test_more_than_the_greatest_limit(self):
        house = big()
        for promise in PROMISES:
            self.raises(TooMany(3000), lambda: reach(house, promise))
            self.raises(TooMany(3000), lambda: reach(house, promise, limit=3000))
            self.raises(TooMany(2999), lambda: reach(house, promise, limit=2999))

    def test_wrong_limits(self):
        house = bit()
        for value in NO_LIMITS:
            self.raises(BadSetting("limit"), lambda: reach(house, "safe", limit=value))
            # The limit is checked ahead of all exploring.
            self.raises(BadSetting("limit"), lambda: reach(big(), "safe", limit=value))

    def test_wrong_promises_ahead_of_wrong_limits(self):
        house = bit()
        for value in NO_PROMISES:
            self.raises(BadPromise(), lambda: reach(house, value))
            self.raises(BadPromise(), lambda: reach(house, value, limit=0))
            self.raises(BadPromise(), lambda: reach(house, value, limit=1))
            self.raises(BadPromise(), lambda: reach(house, value, limit=None))

    def test_limit_is_passed_by_keyword(self):
        with self.assertRaises(TypeError):
            reach(bit(), "safe", 3000)

    def test_the_house_stays(self):
        house = bit()
        reach(house, "atomic")
        self.assertEqual(house, bit())
        self.assertEqual(reach(house, "atomic"), reach(bit(), "atomic"))


if __name__ == "__main__":
    unittest.main()
