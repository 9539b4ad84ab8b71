import itertools
import random
import unittest

from cellsatonce.errors import BadHistory, BadPromise, BadSetting, NoRead
from cellsatonce.histories import checked, earliest, fault, may_tell, order
from helper import ODD_VALUES, Case

PROMISES = ["safe", "regular", "atomic"]
WORDS = ["write", "wrote", "read", "told"]


# A second way to say what section 2 says, by the times at which writes and reads begin and end.

def possible_events(history, size):
    """All events that can stand behind a history, by how often each word has stood."""
    words = [event[0] for event in history]
    events = []
    if words.count("write") == words.count("wrote"):
        events.extend([("write", value) for value in range(size)])
    else:
        events.append(("wrote",))
    if words.count("read") == words.count("told"):
        events.append(("read",))
    else:
        events.extend([("told", value) for value in range(size)])
    return events


def all_histories(size, most):
    """All histories with at most so many events."""
    rows = [[]]
    for history in rows:
        if len(history) < most:
            rows.extend([history + [event] for event in possible_events(history, size)])
    return rows


def random_histories(size, many, most):
    """Some longer histories, always the same ones."""
    source = random.Random(size)
    rows = []
    for _ in range(many):
        history = []
        for _ in range(source.randint(1, most)):
            history.append(source.choice(possible_events(history, size)))
        rows.append(history)
    return rows


def times(history, word):
    return [time for time, event in enumerate(history) if event[0] == word]


def write_values(history, start):
    return [start] + [event[1] for event in history if event[0] == "write"]


def read_spans(history):
    """(LOW, HIGH, told value) of each told read."""
    spans = []
    for begin, end in zip(times(history, "read"), times(history, "told")):
        low = len([time for time in times(history, "wrote") if time < begin])
        high = len([time for time in times(history, "write") if time < end])
        spans.append((low, high, history[end][1]))
    return spans


def choices_of_numbers(history, start):
    """All ways to give the told reads numbers that fit, as "atomic" asks."""
    values = write_values(history, start)
    choices = [[]]
    for low, high, told in read_spans(history):
        choices = [
            choice + [number] for choice in choices for number in range(low, high + 1)
            if values[number] == told and (not choice or number >= choice[-1])]
    return choices


def keeps(history, promise, size, start):
    values = write_values(history, start)
    for low, high, told in read_spans(history):
        if promise == "safe" and low == high and told != values[low]:
            return False
        if promise == "regular" and told not in values[low:high + 1]:
            return False
    return promise != "atomic" or choices_of_numbers(history, start) != []


def expected_fault(history, promise, size, start):
    for time in times(history, "told"):
        if not keeps(history[:time + 1], promise, size, start):
            return time
    return None


def expected_values(history, promise, size, start):
    return [v for v in range(size) if keeps(history + [("told", v)], promise, size, start)]


def expected_numbers(history, start):
    """The least numbers, by looking at all choices for each beginning of the history."""
    numbers = []
    for time in times(history, "told"):
        choices = choices_of_numbers(history[:time + 1], start)
        numbers.append(min([choice[-1] for choice in choices]) if choices else None)
    return numbers


def read_is_open(history):
    return len(times(history, "read")) > len(times(history, "told"))


class AgainstTheDocumentTest(Case):
    """[2.4] to [2.7], [2.10], [2.11] for many histories"""

    def check(self, history, size, start):
        for promise in PROMISES:
            broken = expected_fault(history, promise, size, start)
            self.assertEqual(fault(history, promise, size=size, start=start), broken)
            if read_is_open(history):
                values = expected_values(history, promise, size, start) if broken is None else []
                self.assertEqual(may_tell(history, promise, size=size, start=start), values)
            else:
                self.raises(NoRead(), may_tell, history, promise, size=size, start=start)
        numbers = expected_numbers(history, start)
        self.assertEqual(earliest(history, size=size, start=start), numbers)
        self.check_order(order(history, size=size, start=start), history, numbers)

    def check_order(self, answer, history, numbers):
        if None in numbers:
            self.assertIsNone(answer)
            return
        writes = [((n + 1, 0, 0), ("write", n + 1)) for n in range(len(times(history, "write")))]
        reads = [((number, 1, k), ("read", k)) for k, number in enumerate(numbers)]
        self.assertEqual(answer, [item for _, item in sorted(writes + reads)])

    def test_all_short_histories_of_two_values(self):
        for history in all_histories(2, 7):
            for start in range(2):
                self.check(history, 2, start)

    def test_all_short_histories_of_three_values(self):
        for history in all_histories(3, 4):
            for start in range(3):
                self.check(history, 3, start)

    def test_longer_histories_of_every_size_and_start(self):
        for size in [2, 3, 4, 5]:
            for history in random_histories(size, 60, 40):
                for start in range(size):
                    self.check(history, size, start)

    def test_histories_without_a_break(self):
        for size, promise in itertools.product([2, 3, 4, 5], PROMISES):
            for start in range(size):
                history = self.kept_history(promise, size, start)
                self.assertIsNone(fault(history, promise, size=size, start=start))
                self.check(history, size, start)

    def kept_history(self, promise, size, start):
        """A history that keeps the promise, told from what may be told."""
        source = random.Random(size * 10 + start)
        history = []
        for _ in range(40):
            event = source.choice(possible_events(history, size))
            if event[0] == "told":
                event = ("told", source.choice(may_tell(history, promise, size=size, start=start)))
            history.append(event)
        return history

    def test_each_promise_keeps_the_weaker_ones(self):
        """[2.8]"""
        for history in all_histories(2, 7):
            kept = [fault(history, promise) is None for promise in PROMISES]
            self.assertEqual(kept, sorted(kept, reverse=True))

    def test_what_ended_before_another_one_began_stands_ahead_of_it(self):
        """[2.11]"""
        for history in all_histories(2, 7):
            answer = order(history)
            if answer is not None:
                self.check_times(history, answer)

    def check_times(self, history, answer):
        spans = {}
        for item in answer:
            words = ("write", "wrote") if item[0] == "write" else ("read", "told")
            at = item[1] - 1 if item[0] == "write" else item[1]
            ends = times(history, words[1])
            spans[item] = (times(history, words[0])[at], ends[at] if at < len(ends) else len(history))
        for early, late in itertools.combinations(answer, 2):
            self.assertFalse(spans[late][1] < spans[early][0])

    def test_each_read_in_the_order_tells_the_last_write_ahead(self):
        """[2.11]"""
        for history in all_histories(2, 7):
            told = [event[1] for event in history if event[0] == "told"]
            values = write_values(history, 0)
            last = 0
            for word, number in order(history) or []:
                if word == "write":
                    last = number
                else:
                    self.assertEqual(told[number], values[last])

    def test_a_history_of_four_hundred_events(self):
        """[1.7]"""
        history = [("write", 1), ("wrote",), ("read",), ("told", 1)] * 100
        self.assertEqual(checked(history), history)
        self.assertEqual(earliest(history), list(range(1, 101)))
        self.assertEqual(order(history)[-2:], [("write", 100), ("read", 99)])
        self.assertEqual(may_tell(history + [("read",)], "atomic"), [1])
        for promise in PROMISES:
            self.assertIsNone(fault(history, promise))


class FormTest(Case):
    """[2.1] to [2.3]"""

    def test_the_events_as_tuples(self):
        history = (["write", 1], ("read",), ["told", 0], ["wrote"], ("read",))
        answer = checked(history)
        self.assertEqual(answer, [("write", 1), ("read",), ("told", 0), ("wrote",), ("read",)])
        self.assertIs(type(answer), list)
        self.assertEqual([type(event) for event in answer], [tuple] * 5)

    def test_rows_as_lists_and_as_tuples(self):
        """[1.3]"""
        for history in all_histories(2, 5):
            lists = [list(event) for event in history]
            for same in [lists, tuple(history), tuple(lists)]:
                self.assertEqual(checked(same), history)
                self.assertEqual(earliest(same), earliest(history))
                self.assertEqual(order(same), order(history))
                self.assertEqual(fault(same, "atomic"), fault(history, "atomic"))
                if read_is_open(history):
                    self.assertEqual(may_tell(same, "regular"), may_tell(history, "regular"))

    def test_the_empty_history(self):
        for history in [[], ()]:
            self.assertEqual(checked(history), [])
            self.assertEqual(earliest(history), [])
            self.assertEqual(order(history), [])
            for promise in PROMISES:
                self.assertIsNone(fault(history, promise))
                self.raises(NoRead(), may_tell, history, promise)

    def test_every_word_where_it_can_stand_and_where_not(self):
        """[2.2]"""
        for history in all_histories(2, 6):
            possible = [event[0] for event in possible_events(history, 2)]
            for event in [("write", 0), ("wrote",), ("read",), ("told", 1)]:
                longer = history + [event]
                if event[0] in possible:
                    self.assertEqual(checked(longer), longer)
                else:
                    self.raises(BadHistory(len(history)), checked, longer)

    def test_the_first_wrong_event_is_told(self):
        self.raises(BadHistory(1), checked, [("write", 1), ("told", 1)])
        self.raises(BadHistory(0), checked, [("wrote",), ("told", 1), 7])
        self.raises(BadHistory(1), checked, [("read",), ("read",), None])
        self.raises(BadHistory(2), checked, [("read",), ("write", 1), ("write", 2), ("wrote", 1)], size=3)
        self.raises(BadHistory(1), checked, [("write", 1), ("write", 9)])

    def test_values_that_are_none(self):
        for word in ["write", "told"]:
            ahead = [("read",)] if word == "told" else []
            for size in [2, 3, 4, 5]:
                for value in range(size):
                    self.assertEqual(len(checked(ahead + [(word, value)], size=size)), len(ahead) + 1)
                for value in [size, size + 1, -1] + ODD_VALUES:
                    self.raises(BadHistory(len(ahead)), checked, ahead + [(word, value)], size=size)
                    self.raises(BadHistory(len(ahead)), checked, ahead + [[word, value]], size=size)

    def test_events_with_an_item_less_or_more(self):
        ahead = {"write": [], "wrote": [("write", 0)], "read": [], "told": [("read",)]}
        right = {"write": 2, "wrote": 1, "read": 1, "told": 2}
        for word in WORDS:
            for length in range(5):
                for row in [list, tuple]:
                    event = row(([word] + [0] * 4)[:length])
                    history = ahead[word] + [event]
                    if length == right[word]:
                        self.assertEqual(checked(history), ahead[word] + [tuple(event)])
                    else:
                        self.raises(BadHistory(len(ahead[word])), checked, history)

    def test_events_with_another_word(self):
        for word in ["Write", "writes", "", "write ", "tell", "new"] + ODD_VALUES:
            for event in [(word,), (word, 0), [word], [word, 0]]:
                self.raises(BadHistory(0), checked, [event])

    def test_what_is_no_row_as_an_event(self):
        for value in ODD_VALUES + ["read", "write", {"read": 0}, {"write": 1}]:
            self.raises(BadHistory(0), checked, [value])
            self.raises(BadHistory(2), checked, (("read",), ("write", 0), value))

    def test_what_is_no_row_as_a_history(self):
        values = [value for value in ODD_VALUES if not isinstance(value, (list, tuple))]
        for value in values + ["read", {"read": 0}, {}, 0]:
            self.raises(BadHistory(-1), checked, value)
            self.raises(BadHistory(-1), earliest, value)
            self.raises(BadHistory(-1), order, value)
            self.raises(BadHistory(-1), fault, value, "safe")
            self.raises(BadHistory(-1), may_tell, value, "safe")

    def test_all_functions_refuse_the_same_histories(self):
        for history, index in [([("told", 0)], 0), ([("write", 1), ("write", 1)], 1), ([("write", True)], 0)]:
            self.raises(BadHistory(index), earliest, history)
            self.raises(BadHistory(index), order, history)
            for promise in PROMISES:
                self.raises(BadHistory(index), fault, history, promise)
                self.raises(BadHistory(index), may_tell, history, promise)

    def test_the_size_bounds_the_values_of_all_functions(self):
        history = [("write", 3), ("read",), ("told", 3), ("read",)]
        self.assertEqual(may_tell(history, "regular", size=4, start=2), [2, 3])
        self.assertEqual(fault(history, "safe", size=4, start=3), None)
        self.assertEqual(earliest(history, size=4), [1])
        self.assertEqual(order(history, size=4), [("write", 1), ("read", 0)])
        self.raises(BadHistory(0), may_tell, history, "regular", size=3)
        self.raises(BadHistory(0), fault, history, "safe", size=3)
        self.raises(BadHistory(0), earliest, history, size=3)
        self.raises(BadHistory(0), order, history, size=3)
        self.raises(BadHistory(0), checked, history, size=3)


class SettingTest(Case):
    """[2.9], [1.8]"""

    def test_sizes(self):
        for size in [0, 1, 6, -1] + ODD_VALUES:
            self.raises(BadSetting("size"), checked, [], size=size)
            self.raises(BadSetting("size"), earliest, [], size=size)
            self.raises(BadSetting("size"), order, [], size=size)
            self.raises(BadSetting("size"), fault, [], "safe", size=size)
            self.raises(BadSetting("size"), may_tell, [], "safe", size=size)

    def test_starts(self):
        for size in [2, 3, 4, 5]:
            for start in [size, -1] + ODD_VALUES:
                self.raises(BadSetting("start"), earliest, [], size=size, start=start)
                self.raises(BadSetting("start"), order, [], size=size, start=start)
                self.raises(BadSetting("start"), fault, [], "safe", size=size, start=start)
                self.raises(BadSetting("start"), may_tell, [], "safe", size=size, start=start)

    def test_promises(self):
        for promise in ["none", "strong", "Safe", "safe ", 0, 1, 2, ["safe"], ("atomic",)] + ODD_VALUES:
            self.raises(BadPromise(), fault, [], promise)
            self.raises(BadPromise(), may_tell, [("read",)], promise)

    def test_the_order_of_the_checks(self):
        for call in [fault, may_tell]:
            self.raises(BadSetting("size"), call, 0, "weak", size=9, start=9)
            self.raises(BadSetting("start"), call, 0, "weak", size=2, start=2)
            self.raises(BadPromise(), call, 0, "weak", size=2, start=1)
            self.raises(BadHistory(-1), call, 0, "safe", size=2, start=1)
        for call in [earliest, order]:
            self.raises(BadSetting("size"), call, 0, size=9, start=9)
            self.raises(BadSetting("start"), call, 0, size=2, start=2)
            self.raises(BadHistory(-1), call, 0, size=2, start=1)
        self.raises(BadSetting("size"), checked, 0, size=9)
        self.raises(BadHistory(-1), checked, 0, size=2)
        self.raises(BadHistory(1), may_tell, [("write", 1), ("told", 1)], "atomic")

    def test_size_and_start_if_not_given(self):
        self.assertEqual(may_tell([("read",)], "safe"), [0])
        self.assertEqual(may_tell([("write", 1), ("read",)], "safe"), [0, 1])
        self.raises(BadHistory(0), checked, [("write", 2)])

    def test_settings_are_passed_by_keyword(self):
        for call, args in [(checked, ([], 2)), (earliest, ([], 2)), (order, ([], 2)),
                           (fault, ([], "safe", 2)), (may_tell, ([("read",)], "safe", 2))]:
            with self.assertRaises(TypeError):
                call(*args)


class PromisesTest(Case):
    """[2.5] to [2.7], [2.10]: cases by hand"""

    def test_a_read_without_a_write(self):
        for promise, start in itertools.product(PROMISES, range(5)):
            self.assertEqual(may_tell([("read",)], promise, size=5, start=start), [start])
            history = [("write", 1), ("wrote",), ("write", 2), ("wrote",), ("read",)]
            self.assertEqual(may_tell(history, promise, size=5, start=start), [2])

    def test_a_write_that_overlaps(self):
        inside = [("read",), ("write", 2), ("wrote",)]
        under_way = [("write", 2), ("read",)]
        for history in [inside, under_way, inside[:2], under_way + [("wrote",)]]:
            self.assertEqual(may_tell(history, "safe", size=4, start=1), [0, 1, 2, 3])
            self.assertEqual(may_tell(history, "regular", size=4, start=1), [1, 2])
            self.assertEqual(may_tell(history, "atomic", size=4, start=1), [1, 2])

    def test_a_write_of_the_value_that_is_there_already(self):
        history = [("write", 1), ("read",)]
        self.assertEqual(may_tell(history, "safe", size=3, start=1), [0, 1, 2])
        self.assertEqual(may_tell(history, "regular", size=3, start=1), [1])
        self.assertEqual(may_tell(history, "atomic", size=3, start=1), [1])

    def test_several_writes_in_one_read(self):
        history = [("read",), ("write", 3), ("wrote",), ("write", 1), ("wrote",), ("write", 3)]
        self.assertEqual(may_tell(history, "regular", size=5, start=2), [1, 2, 3])
        self.assertEqual(may_tell(history, "atomic", size=5, start=2), [1, 2, 3])
        self.assertEqual(earliest(history + [("told", 3)], size=5, start=2), [1])
        self.assertEqual(earliest(history + [("told", 1)], size=5, start=2), [2])

    def test_an_old_value_behind_a_new_one(self):
        history = [("write", 1), ("read",), ("told", 1), ("read",)]
        self.assertEqual(may_tell(history, "atomic"), [1])
        self.assertEqual(may_tell(history, "regular"), [0, 1])
        history = [("write", 1), ("read",), ("told", 0), ("read",)]
        self.assertEqual(may_tell(history, "atomic"), [0, 1])

    def test_the_least_number_of_several(self):
        history = [("read",), ("write", 1), ("wrote",), ("write", 0), ("wrote",), ("told", 0), ("read",), ("told", 0)]
        self.assertEqual(earliest(history), [0, 2])
        history = [("write", 0), ("read",), ("told", 0), ("read",), ("told", 0), ("wrote",), ("read",), ("told", 0)]
        self.assertEqual(earliest(history), [0, 0, 1])

    def test_a_read_is_bound_by_the_read_before_it_only(self):
        inside = [("read",), ("write", 1), ("wrote",), ("write", 0), ("told", 1), ("read",)]
        self.assertEqual(may_tell(inside, "atomic"), [0, 1])
        self.assertEqual(earliest(inside + [("told", 0)]), [1, 2])
        self.assertEqual(earliest(inside + [("told", 1)]), [1, 1])

    def test_no_read_under_way_where_the_promise_is_broken(self):
        broken = [("read",), ("told", 1)]
        for promise in PROMISES:
            self.raises(NoRead(), may_tell, [], promise)
            self.raises(NoRead(), may_tell, [("write", 1)], promise)
            self.raises(NoRead(), may_tell, broken, promise)
            self.assertEqual(may_tell(broken + [("read",)], promise), [])
            self.assertEqual(may_tell(broken + [("read",), ("write", 1)], promise), [])

    def test_the_empty_answer_only_behind_a_break_of_this_promise(self):
        inverted = [("write", 1), ("read",), ("told", 1), ("read",), ("told", 0), ("read",)]
        self.assertEqual(may_tell(inverted, "atomic"), [])
        self.assertEqual(may_tell(inverted, "regular"), [0, 1])
        odd = [("write", 1), ("read",), ("told", 2), ("read",)]
        self.assertEqual(may_tell(odd, "atomic", size=3), [])
        self.assertEqual(may_tell(odd, "regular", size=3), [])
        self.assertEqual(may_tell(odd, "safe", size=3), [0, 1, 2])

    def test_the_first_of_several_breaks(self):
        history = [("read",), ("told", 0), ("read",), ("told", 1), ("read",), ("told", 1)]
        for promise in PROMISES:
            self.assertEqual(fault(history, promise), 3)

    def test_no_number_from_the_first_break_on(self):
        history = [("read",), ("told", 1), ("read",), ("told", 0), ("write", 1), ("read",), ("told", 1)]
        self.assertEqual(earliest(history), [None, None, None])
        history = [("read",), ("told", 0)] + history
        self.assertEqual(earliest(history), [0, None, None, None])
        self.assertIsNone(order(history))

    def test_a_read_under_way_has_no_number(self):
        self.assertEqual(earliest([("read",)]), [])
        self.assertEqual(earliest([("read",), ("told", 0), ("read",)]), [0])

    def test_reads_in_front_of_the_first_write(self):
        """[2.11]"""
        history = [("read",), ("told", 0), ("write", 1), ("read",), ("told", 0), ("read",), ("told", 1), ("read",)]
        self.assertEqual(order(history), [("read", 0), ("read", 1), ("write", 1), ("read", 2)])

    def test_writes_that_nobody_read_stand_in_the_order(self):
        """[2.11]"""
        history = [("write", 1), ("wrote",), ("write", 0), ("wrote",), ("read",), ("told", 0), ("write", 1)]
        self.assertEqual(order(history), [("write", 1), ("write", 2), ("read", 0), ("write", 3)])


class AnswersTest(Case):
    """[1.6]"""

    def test_no_argument_is_changed(self):
        for history in all_histories(2, 5):
            before = list(history)
            checked(history)
            earliest(history)
            order(history)
            fault(history, "atomic")
            if read_is_open(history):
                may_tell(history, "regular")
            self.assertEqual(history, before)

    def test_a_changed_answer_changes_no_later_one(self):
        history = [("write", 1), ("read",), ("told", 1), ("read",)]
        calls = [
            lambda: checked(history), lambda: earliest(history), lambda: order(history),
            lambda: may_tell(history, "safe"), lambda: may_tell(history, "regular"),
            lambda: may_tell(history, "atomic")]
        for call in calls:
            first = call()
            self.assertIs(type(first), list)
            self.assertNotEqual(first, [])
            kept = list(first)
            first.clear()
            self.assertEqual(call(), kept)
        self.assertEqual(len(history), 4)

    def test_the_answer_does_not_follow_the_argument(self):
        history = [["write", 1], ["read"]]
        answer = checked(history)
        history[0][1] = 0
        history.append(["told", 1])
        self.assertEqual(answer, [("write", 1), ("read",)])


class ExamplesTest(Case):
    """Section 14"""

    def test_examples(self):
        inverted = [("write", 1), ("read",), ("told", 1), ("read",), ("told", 0)]
        self.assertEqual(may_tell([("write", 1), ("read",)], "regular"), [0, 1])
        self.assertEqual(fault(inverted, "regular"), None)
        self.assertEqual(fault(inverted, "atomic"), 4)
        self.assertEqual(earliest(inverted), [1, None])
        self.assertEqual(
            order([("write", 1), ("read",), ("told", 0), ("wrote",), ("read",), ("told", 1)]),
            [("read", 0), ("write", 1), ("read", 1)])
        self.raises(BadHistory(1), checked, [("write", 1), ("told", 1)])


if __name__ == "__main__":
    unittest.main()
