import inspect
import itertools
import unittest

from cellsatonce.cells import Cell
from cellsatonce.errors import BadProgram
from cellsatonce.programs import Program
from helper import ODD_VALUES, Case

WORDS = ["write", "get", "set", "if", "while", "return"]
STORE = {"x": (3, 1), "y": (2, 0)}
GET = ("get", "x", "a")
RETURN = ("return", 0)

# One right statement of each word, for a reader with the variables x and y. The while has a
# body that is not idle.
RIGHT = {
    "write": ("write", "a", "x"),
    "get": ("get", "x", "a"),
    "set": ("set", "x", 1),
    "if": ("if", "x", "y", [GET], []),
    "while": ("while", "x", 1, [GET]),
    "return": ("return", ("plus", "x", 2)),
}
PARTS = {
    "write": ["cell", "term"],
    "get": ["local", "cell"],
    "set": ["local", "term"],
    "if": ["local", "term", "block", "block"],
    "while": ["local", "term", "block"],
    "return": ["term"],
}


def reader(block, store=None):
    return Program("reader", STORE if store is None else store, block)


def writer(block, store=None):
    return Program("writer", STORE if store is None else store, block)


def changed(statement, at, item):
    """The statement with another item at one place."""
    return statement[:at] + (item,) + statement[at + 1:]


def as_lists(value):
    if isinstance(value, (list, tuple)):
        return [as_lists(item) for item in value]
    return value


def as_tuples(value):
    if isinstance(value, (list, tuple)):
        return tuple(as_tuples(item) for item in value)
    return value


def around(depth, block, word="if"):
    """The block within so many ifs or whiles; a get keeps each while from being idle."""
    for _ in range(depth):
        block = [("if", "x", 0, block, [])] if word == "if" else [("while", "x", 0, block + [GET])]
    return block


class ProgramCase(Case):
    def bad(self, place, why, side, block, store=None):
        self.raises(BadProgram(place, why), Program, side, STORE if store is None else store, block)

    def bad_reader(self, place, why, block, store=None):
        self.bad(place, why, "reader", block, store)


class WholeTest(ProgramCase):
    """[3.3], [3.8] 1 to 3"""

    def test_sides(self):
        for side in ["writer", "reader"]:
            self.assertEqual(Program(side, {}, []).side, side)
        for side in ["both", "Writer", "reader ", ["reader"], ("writer",), 0, 1] + ODD_VALUES:
            self.raises(BadProgram(-1, "side"), Program, side, {}, [])

    def test_stores(self):
        for size in [2, 3, 4]:
            for start in range(size):
                for room in [(size, start), [size, start]]:
                    self.assertEqual(reader([], {"x": room}).store, (("x", size, start),))

    def test_what_is_no_store(self):
        for store in [0, "x", [], (), [("x", 2, 0)], (("x", (2, 0)),), None, True]:
            self.raises(BadProgram(-1, "store"), Program, "reader", store, [])
        for value in ODD_VALUES:
            if value != {}:
                self.raises(BadProgram(-1, "store"), Program, "reader", value, [])

    def test_sizes_and_starts_that_are_none(self):
        for value in ODD_VALUES + [5]:
            for row in [tuple, list]:
                self.bad_reader(-1, "store", [], {"x": row([value, 0])})
                self.bad_reader(-1, "store", [], {"x": row([2, value])})
        for room in [(1, 0), (0, 0), (5, 0), (2, 2), (3, 3), (4, 4), (2, -1), (True, 0), (2, False), (2, True)]:
            self.bad_reader(-1, "store", [], {"x": room})

    def test_rooms_that_are_no_row_of_two(self):
        for room in [(), (2,), (2, 0, 0), [], [2], [2, 0, 0], "20", 2, {2: 0, 3: 1}] + ODD_VALUES:
            self.bad_reader(-1, "store", [], {"x": room})
            self.bad_reader(-1, "store", [], {"x": (2, 0), "y": room})

    def test_names_of_variables(self):
        for name in ["a", "z", "abcdefgh", "plus", "write", "while", "writer"]:
            self.assertEqual(reader([], {name: (2, 0)}).store, ((name, 2, 0),))
        for name in ["new", "", "abcdefghi", "X", "x1", "x ", "x\n", "\u00e9", 0, 1, True, False, None, (), ("x",)]:
            self.bad_reader(-1, "store", [], {name: (2, 0)})
            self.bad_reader(-1, "store", [], {"x": (2, 0), name: (2, 0)})
            self.bad(-1, "store", "writer", [], {name: (2, 0)})

    def test_at_most_four_variables(self):
        names = ["e", "d", "c", "b", "a", "f", "g", "h", "i", "j", "k", "l"]
        for many in range(5):
            store = {name: (2, 1) for name in names[:many]}
            self.assertEqual(reader([], store).store, tuple((name, 2, 1) for name in sorted(names[:many])))
        for many in range(5, 13):
            self.bad_reader(-1, "store", [], {name: (2, 1) for name in names[:many]})

    def test_what_is_no_block(self):
        values = [value for value in ODD_VALUES if not isinstance(value, (list, tuple))]
        for value in values + ["return", {}, {"return": 0}, 0]:
            self.bad_reader(-1, "block", value)
            self.bad(-1, "block", "writer", value)

    def test_the_order_of_side_store_and_block(self):
        self.raises(BadProgram(-1, "side"), Program, "me", 0, 0)
        self.raises(BadProgram(-1, "side"), Program, "me", {}, [])
        self.raises(BadProgram(-1, "store"), Program, "reader", 0, 0)
        self.raises(BadProgram(-1, "block"), Program, "reader", {}, 0)
        self.raises(BadProgram(0, "statement"), Program, "reader", {}, [0])


class StatementTest(ProgramCase):
    """[3.4], [3.8] 4: one statement"""

    def test_each_statement_is_taken(self):
        for word in WORDS:
            for statement in [RIGHT[word], as_lists(RIGHT[word]), as_tuples(RIGHT[word])]:
                for row in [list, tuple]:
                    self.assertEqual(reader(row([statement])).block, (as_tuples(RIGHT[word]),))

    def test_what_is_no_statement(self):
        for value in ODD_VALUES + ["return", "get", {"return": 0}, 0]:
            self.bad_reader(0, "statement", [value])
            self.bad_reader(1, "statement", [GET, value])
            self.bad_reader(1, "statement", [("if", "x", 0, [value], [])])

    def test_rows_with_an_item_less_or_more(self):
        for word in WORDS:
            right = RIGHT[word]
            for row in [tuple, list]:
                for length in range(len(right)):
                    self.bad_reader(0, "statement", [row(right[:length])])
                for item in [0, [], "x"]:
                    self.bad_reader(0, "statement", [row(right + (item,))])

    def test_rows_with_another_word(self):
        for word in ["", "Write", "gets", "plus", "new", "else", "read"] + ODD_VALUES:
            for other in WORDS:
                self.bad_reader(0, "statement", [changed(RIGHT[other], 0, word)])
                self.bad_reader(0, "statement", [list(changed(RIGHT[other], 0, word))])

    def test_wrong_values_in_every_part(self):
        for word in WORDS:
            for at, part in enumerate(PARTS[word], start=1):
                for value in ODD_VALUES:
                    if part == "block" and isinstance(value, (list, tuple)):
                        continue
                    with self.subTest(word=word, part=part, value=str(value)[:40]):
                        self.bad_reader(0, part, [changed(RIGHT[word], at, value)])

    def test_rows_of_anything_as_blocks(self):
        for word, at in [("if", 3), ("if", 4), ("while", 3)]:
            place = 2 if at == 4 else 1
            for value in ODD_VALUES:
                if isinstance(value, (list, tuple)) and len(value) > 0:
                    self.bad_reader(place, "statement", [changed(RIGHT[word], at, value)])

    def test_a_local_part_names_a_variable(self):
        for word in ["get", "set", "if", "while"]:
            for name in ["z", "a", "new", 0, ("plus", "x", 0), ["x"], ("x",), {"x": 0}]:
                self.bad_reader(0, "local", [changed(RIGHT[word], 1, name)])
            self.bad_reader(0, "local", [RIGHT[word]], {"y": (2, 0)})
            self.bad_reader(0, "local", [RIGHT[word]], {})
            self.bad(0, "local", "writer", [changed(RIGHT[word], 1, "new")])

    def test_a_cell_part_is_any_name(self):
        for name in ["a", "x", "zz", "new", "abcdefgh", "plus", "if"]:
            for side in ["writer", "reader"]:
                block = (("write", name, 0), ("get", "x", name))
                self.assertEqual(Program(side, STORE, block).block, block)
        for name in ["", "abcdefghi", "A", "a1", 0, ["a"]]:
            self.bad_reader(0, "cell", [("write", name, 0)])
            self.bad_reader(0, "cell", [("get", "x", name)])

    def test_a_return_is_for_the_reader(self):
        self.bad(0, "side", "writer", [RETURN])
        self.bad(0, "side", "writer", [("return", "new")])
        self.bad(0, "side", "writer", [("return", None)])
        self.bad(0, "statement", "writer", [("return",)])
        self.bad(2, "side", "writer", [GET, ("if", "x", 0, [RETURN], [])])
        self.assertEqual(reader([RETURN]).block, (RETURN,))

    def test_empty_blocks_of_an_if(self):
        for yes, no in itertools.product([[], (), [GET]], repeat=2):
            self.assertEqual(reader([("if", "x", 0, yes, no)]).block, (("if", "x", 0, tuple(yes), tuple(no)),))

    def test_the_order_of_the_reasons(self):
        wrong = {"local": "zzz", "cell": "ZZZ", "term": 9, "block": 0}
        for word in WORDS:
            parts = PARTS[word]
            for chosen in itertools.product([False, True], repeat=len(parts)):
                if any(chosen):
                    items = [wrong[part] if use else item
                             for part, use, item in zip(parts, chosen, RIGHT[word][1:])]
                    self.bad_reader(0, parts[chosen.index(True)], [(word, *items)])


class TermTest(ProgramCase):
    """[3.5]"""

    def places_of_terms(self, term):
        """A statement of each kind with this term."""
        return [("write", "a", term), ("set", "x", term), ("if", "x", term, [GET], []),
                ("while", "x", term, [GET])]

    def test_terms_of_both_sides(self):
        terms = [0, 1, 2, 3, "x", "y"] + [("plus", name, k) for name in "xy" for k in range(4)]
        for side, term in itertools.product(["writer", "reader"], terms):
            for statement in self.places_of_terms(term):
                self.assertEqual(Program(side, STORE, [statement]).block, (as_tuples(statement),))
                self.assertEqual(Program(side, STORE, [as_lists(statement)]).block, (as_tuples(statement),))
        for term in terms:
            self.assertEqual(reader([("return", term)]).block, (("return", term),))

    def test_new_is_for_the_writer(self):
        for statement in self.places_of_terms("new"):
            self.assertEqual(writer([statement]).block, (as_tuples(statement),))
            self.bad_reader(0, "term", [statement])
        self.bad_reader(0, "term", [("return", "new")])

    def test_what_is_no_term(self):
        terms = [-1, 4, 5, 10 ** 39, True, False, None, "z", "a", "X", "", "new ", "xy", "plus",
                 (), [], {}, ("plus",), ("plus", "x"), ("plus", "x", 0, 0), ("minus", "x", 1), ("plus", "z", 1),
                 ("plus", "new", 1), ("plus", 1, 1), ("plus", 1, "x"), ("plus", "x", "y"), ("plus", "x", 4),
                 ("plus", "x", -1), ("plus", "x", True), ("plus", "x", False), ("plus", "x", None),
                 ("x",), ["x"], (1,), ("plus", ("plus", "x", 1), 1), ("Plus", "x", 1), (["plus"], "x", 1)]
        for side, term in itertools.product(["writer", "reader"], terms):
            for statement in self.places_of_terms(term):
                self.bad(0, "term", side, [statement])
        for term in terms:
            self.bad_reader(0, "term", [("return", term)])

    def test_wrong_values_in_every_place_of_a_sum(self):
        for at, value in itertools.product(range(3), ODD_VALUES):
            term = changed(("plus", "x", 1), at, value)
            for statement in self.places_of_terms(term) + self.places_of_terms(list(term)):
                self.bad_reader(0, "term", [statement])

    def test_a_variable_may_be_called_plus(self):
        store = {"plus": (2, 0), "x": (2, 0)}
        block = (("set", "x", "plus"), ("set", "plus", ("plus", "plus", 1)), GET)
        self.assertEqual(reader(block, store).block, block)


class PlacesTest(ProgramCase):
    """[3.7], [3.8] 4: several statements"""

    def test_the_place_of_the_first_wrong_statement(self):
        tree = [GET, ("if", "x", 0, [GET, ("while", "x", 1, [GET])], [GET, GET]), ("while", "x", 2, [GET]), RETURN]
        self.assertEqual(reader(tree).count, 10)
        for place in range(10):
            for wrong, why in [(0, "statement"), (("get", "z", "a"), "local"), (("get", "x", ""), "cell"),
                               (("set", "x", 4), "term"), (("while", "x", 1, 1), "block")]:
                self.bad_reader(place, why, self.with_wrong(tree, place, wrong))

    def with_wrong(self, block, place, wrong):
        """The block with another statement at one place."""
        rows = []
        for statement in block:
            items = [wrong] if place == 0 else [statement]
            place -= 1
            for at, inner in enumerate(statement[3:], start=3):
                many = reader(inner).count
                if 0 <= place < many:
                    items = [changed(statement, at, self.with_wrong(inner, place, wrong))]
                place -= many
            rows.extend(items)
        return rows

    def test_the_first_of_several_wrong_statements(self):
        self.bad_reader(1, "cell", [GET, ("get", "x", ""), 0])
        self.bad_reader(1, "term", [("if", "x", 0, [("set", "x", 4)], [0]), 0])
        self.bad_reader(1, "statement", [("if", "x", 0, [], [0]), ("get", "z", "a")])
        self.bad_reader(2, "local", [("while", "x", 0, [GET, ("get", "z", "a")]), 0])
        self.bad_reader(0, "block", [("if", "x", 0, [0], 0)])
        self.bad_reader(0, "term", [("if", "x", 4, [0], [0])])

    def test_sixteen_and_seventeen_statements(self):
        for word in ["write", "get", "set", "if", "while"]:
            size = 2 if word in ("if", "while") else 1
            self.assertEqual(reader([RIGHT[word]] * (16 // size)).count, 16)
            self.bad_reader(16, "many", [RIGHT[word]] * (16 // size + 1))
        self.assertEqual(reader([GET] * 15 + [RETURN]).count, 16)
        self.bad_reader(16, "many", [GET] * 16 + [RETURN])
        self.bad_reader(16, "many", [GET] * 40)

    def test_the_seventeenth_within_a_block(self):
        self.bad_reader(16, "many", [GET] * 15 + [("if", "x", 0, [GET], [])])
        self.bad_reader(16, "many", [GET] * 15 + [("if", "x", 0, [], [GET])])
        self.bad_reader(16, "many", [("while", "x", 0, [GET] * 16)])
        self.assertEqual(reader([("while", "x", 0, [GET] * 15)]).count, 16)

    def test_many_comes_ahead_of_everything_else_at_its_place(self):
        for value in ODD_VALUES + [("return", 9), ("get", "z", ""), ("while", "x", 0, around(3, [GET]))]:
            self.bad_reader(16, "many", [GET] * 16 + [value])
        self.bad(16, "many", "writer", [GET] * 16 + [RETURN])
        self.bad_reader(15, "statement", [GET] * 15 + [0, GET])

    def test_three_around_each_other_and_no_four(self):
        for words in itertools.product(["if", "while"], repeat=3):
            block = [GET]
            for word in words:
                block = around(1, block, word)
            self.assertEqual(reader(block).count, 4 + words.count("while"))
            for word in ["if", "while"]:
                self.bad_reader(1, "statement", around(1, [0], word))
                deeper = [GET]
                for outer in (word, *words):
                    deeper = around(1, deeper, outer)
                self.bad_reader(3, "deep", deeper)

    def test_deep_in_the_block_no(self):
        block = [GET]
        for _ in range(3):
            block = [("if", "x", 0, [], block)]
        self.assertEqual(reader(block).count, 4)
        self.bad_reader(3, "deep", [("if", "x", 0, [], block)])
        self.bad_reader(4, "deep", [("if", "x", 0, [GET], block)])

    def test_other_statements_stand_within_three(self):
        for word in ["write", "get", "set", "return"]:
            self.assertEqual(reader(around(3, [RIGHT[word]])).count, 4)

    def test_deep_is_the_last_reason(self):
        for wrong, why in [(("if", "z", 4, 0, 0), "local"), (("if", "x", 4, 0, 0), "term"),
                           (("if", "x", 0, 0, []), "block"), (("if", "x", 0, [], 0), "block"),
                           (("while", "x", 0, 0), "block"), (("if", "x", 0, [0], []), "deep"),
                           (("while", "x", 0, [0]), "deep"), (("while", "x", 0), "statement")]:
            self.bad_reader(3, why, around(3, [wrong]))

    def test_very_deep_blocks(self):
        """[1.5], [1.8]"""
        self.bad_reader(3, "deep", around(44, [GET], "if"))
        self.bad_reader(3, "deep", around(44, [GET], "while"))
        self.bad_reader(3, "deep", as_lists(around(44, [0], "if")))


class WaysTest(ProgramCase):
    """[3.9], [3.10], [3.8] 5"""

    def test_dead_behind_a_return(self):
        for word in WORDS:
            self.bad_reader(1, "dead", [RETURN, RIGHT[word]])
            self.bad_reader(2, "dead", [GET, RETURN, RIGHT[word]])
        self.bad_reader(1, "dead", [RETURN, GET, GET, RETURN])

    def test_dead_behind_an_if_whose_blocks_both_end(self):
        both = ("if", "x", 0, [RETURN], [GET, RETURN])
        self.bad_reader(4, "dead", [both, GET])
        self.bad_reader(6, "dead", [("if", "x", 1, [both], [RETURN]), GET])
        self.bad_reader(6, "dead", [("if", "x", 1, [RETURN], [both]), GET])
        self.bad_reader(5, "dead", [("if", "x", 1, [both, GET], [])])
        self.bad_reader(5, "dead", [("while", "x", 1, [both, GET])])

    def test_dead_within_a_block(self):
        self.bad_reader(2, "dead", [("if", "x", 0, [RETURN, GET], [])])
        self.bad_reader(2, "dead", [("if", "x", 0, [], [RETURN, GET])])
        self.bad_reader(2, "dead", [("while", "x", 0, [RETURN, GET])])

    def test_not_dead(self):
        for ahead in [
            ("if", "x", 0, [RETURN], []), ("if", "x", 0, [], [RETURN]), ("if", "x", 0, [RETURN], [GET]),
            ("if", "x", 0, [GET], [RETURN]), ("if", "x", 0, [], []), ("while", "x", 0, [RETURN]),
            ("while", "x", 0, [("if", "x", 0, [RETURN], [RETURN])]),
            ("if", "x", 0, [("if", "x", 0, [RETURN], [])], [RETURN]),
            ("if", "x", 0, [("while", "x", 0, [RETURN])], [RETURN]),
            ("if", "x", 0, [RETURN], [("if", "x", 0, [], [RETURN])]),
        ]:
            with self.subTest(ahead=ahead):
                block = as_tuples([ahead, RETURN])
                self.assertEqual(reader(block).block, block)
                self.assertEqual(reader(as_lists(block)).block, block)

    def test_a_writer_has_nothing_dead(self):
        block = (("if", "x", 0, (), ()), ("while", "x", 0, (GET,)), ("write", "a", "new"))
        self.assertEqual(writer(block).block, block)

    def test_idle(self):
        bare = [
            [], [("set", "x", 1)], [("set", "x", 1), ("set", "y", 0)],
            [("if", "x", 0, [], [])], [("if", "x", 0, [], [GET])], [("if", "x", 0, [GET], [])],
            [("if", "x", 0, [RETURN], [("set", "x", 1)])], [("if", "x", 0, [("set", "x", 1)], [RETURN])],
            [("while", "x", 0, [GET])], [("set", "x", 1), ("while", "x", 0, [GET]), ("set", "y", 1)],
            [("if", "x", 0, [("while", "x", 0, [GET])], [GET])],
            [("if", "x", 0, [GET], [("if", "x", 0, [GET], [])])],
        ]
        for body in bare:
            with self.subTest(body=body):
                self.bad_reader(0, "idle", [("while", "x", 0, body)])
                self.bad_reader(0, "idle", as_lists([("while", "x", 0, body)]))
                self.bad_reader(1, "idle", [GET, ("while", "x", 0, body)])
        for body in bare[:6]:
            self.bad(2, "idle", "writer", [("while", "x", 1, [GET, ("while", "x", 0, body)])])

    def test_not_idle(self):
        for body in [
            [GET], [("write", "a", 1)], [RETURN], [("set", "x", 1), GET], [GET, ("set", "x", 1)],
            [("while", "x", 0, [GET]), GET], [GET, ("if", "x", 0, [], [])],
            [("if", "x", 0, [GET], [GET])], [("if", "x", 0, [RETURN], [GET])],
            [("if", "x", 0, [GET, ("set", "x", 1)], [("set", "x", 1), RETURN])],
            [("if", "x", 0, [("if", "x", 0, [GET], [RETURN])], [("write", "a", 0)])],
            [("if", "x", 0, [GET], [GET]), ("set", "x", 0)],
        ]:
            with self.subTest(body=body):
                block = as_tuples([("while", "x", 0, body)])
                self.assertEqual(reader(block).block, block)
                self.assertEqual(reader(as_lists(block)).block, block)

    def test_idle_is_asked_by_form(self):
        self.bad_reader(0, "idle", [("while", "x", 0, [("set", "x", 1)])])
        self.bad_reader(0, "idle", [("while", "y", 3, [])])
        self.bad_reader(0, "idle", [("while", "y", 0, [("if", "y", 0, [GET], [("set", "y", 0)])])])

    def test_the_first_of_dead_and_idle_statements(self):
        idle = ("while", "x", 0, [])
        self.bad_reader(0, "idle", [idle, RETURN, GET])
        self.bad_reader(1, "dead", [RETURN, GET, idle])
        self.bad_reader(1, "idle", [GET, idle, RETURN, GET])
        self.bad_reader(2, "idle", [("if", "x", 0, [RETURN], [idle]), RETURN, GET])
        self.bad_reader(2, "dead", [("if", "x", 0, [RETURN, GET], [idle]), GET])
        self.bad_reader(0, "idle", [("while", "x", 0, [idle])])
        self.bad_reader(2, "idle", [("while", "x", 0, [GET, idle])])
        self.bad_reader(1, "dead", [RETURN, ("if", "x", 0, [idle], [])])

    def test_a_statement_that_is_both_is_dead(self):
        self.bad_reader(1, "dead", [RETURN, ("while", "x", 0, [])])
        self.bad_reader(3, "dead", [("if", "x", 0, [RETURN], [RETURN]), ("while", "x", 0, [("set", "x", 1)])])

    def test_all_forms_are_checked_ahead(self):
        idle = ("while", "x", 0, [])
        self.bad_reader(2, "statement", [RETURN, GET, 0])
        self.bad_reader(2, "term", [idle, GET, ("return", 4)])
        self.bad_reader(4, "deep", [idle] + around(3, [idle], "if"))
        self.bad_reader(16, "many", [RETURN] * 17)
        self.bad(3, "side", "writer", [idle, GET, GET, RETURN])


class AttributesTest(ProgramCase):
    """[3.11], [1.6]"""

    BLOCK = [["if", "x", ["plus", "y", 2], [["get", "x", "a"], ["while", "y", 1, [["write", "b", "x"]]]],
              [["return", 3]]], ["set", "y", "x"], ["return", ["plus", "x", 1]]]

    def test_side_store_block_and_count(self):
        program = Program("reader", {"y": [2, 1], "x": (4, 3), "abc": (3, 0)}, self.BLOCK)
        self.assertEqual(program.side, "reader")
        self.assertEqual(program.store, (("abc", 3, 0), ("x", 4, 3), ("y", 2, 1)))
        self.assertEqual(program.block, as_tuples(self.BLOCK))
        self.assertEqual(program.count, 7)
        for name in ["side", "store", "block", "count"]:
            self.assertIn(name, vars(program))

    def test_the_empty_program(self):
        for side, block in itertools.product(["writer", "reader"], [[], ()]):
            program = Program(side, {}, block)
            self.assertEqual((program.side, program.store, program.block, program.count), (side, (), (), 0))
            self.assertEqual(list(program.walk()), [])

    def test_all_rows_are_tuples(self):
        self.assertTrue(self.only_tuples(reader(self.BLOCK).block))
        self.assertTrue(self.only_tuples(reader(self.BLOCK).store))

    def only_tuples(self, value):
        if isinstance(value, tuple):
            return all(self.only_tuples(item) for item in value)
        return isinstance(value, (int, str))

    def test_what_is_changed_afterwards(self):
        room = [3, 1]
        store = {"x": room, "y": [2, 0]}
        term = ["plus", "x", 1]
        inner = ["get", "x", "a"]
        body = [inner]
        loop = ["while", "x", 0, body]
        block = [["set", "y", term], loop]
        program = reader(block, store)
        before = (program.side, program.store, program.block, program.count, list(program.walk()))
        room[0] = 4
        store["z"] = (2, 0)
        del store["y"]
        term[2] = 3
        inner[1] = "y"
        body.append(RETURN)
        loop[2] = 1
        block.clear()
        self.assertEqual(
            (program.side, program.store, program.block, program.count, list(program.walk())), before)
        self.assertEqual(before[2], (("set", "y", ("plus", "x", 1)), ("while", "x", 0, (GET,))))

    def test_equal_if_side_store_and_block_are(self):
        first = Program("reader", {"x": (2, 0), "y": (3, 1)}, [GET])
        self.assertTrue(first == Program("reader", {"y": [3, 1], "x": [2, 0]}, (list(GET),)))
        self.assertFalse(first != Program("reader", {"y": [3, 1], "x": [2, 0]}, (list(GET),)))
        others = [
            Program("writer", {"x": (2, 0), "y": (3, 1)}, [GET]),
            Program("reader", {"x": (2, 0)}, [GET]),
            Program("reader", {"x": (2, 1), "y": (3, 1)}, [GET]),
            Program("reader", {"x": (2, 0), "y": (4, 1)}, [GET]),
            Program("reader", {"x": (2, 0), "z": (3, 1)}, [GET]),
            Program("reader", {"x": (2, 0), "y": (3, 1)}, []),
            Program("reader", {"x": (2, 0), "y": (3, 1)}, [("get", "x", "b")]),
            Program("reader", {"x": (2, 0), "y": (3, 1)}, [GET, RETURN]),
        ]
        for k, other in enumerate(others):
            with self.subTest(k=k):
                self.assertFalse(first == other)
                self.assertTrue(first != other)
                self.assertFalse(other == first)

    def test_no_other_value_is_equal(self):
        program = reader([GET])
        others = [program.block, (program.side, program.store, program.block), Cell("a", "safe", 2)]
        for value in ODD_VALUES + others:
            self.assertFalse(program == value)
            self.assertFalse(value == program)
            self.assertTrue(program != value)


class WalkTest(ProgramCase):
    """[3.7], [3.11]"""

    def test_a_generator_of_new_triples(self):
        program = reader([GET])
        self.assertTrue(inspect.isgenerator(program.walk()))
        self.assertEqual(list(program.walk()), list(program.walk()))
        self.assertEqual([type(triple) for triple in program.walk()], [tuple])

    def test_places_and_depths(self):
        loop = ("while", "x", 0, (GET,))
        inner = ("if", "y", 1, (GET, loop), (("set", "x", 0), RETURN))
        outer = ("if", "x", 0, (), (inner, ("write", "b", 2)))
        block = (("set", "y", 1), outer, loop, RETURN)
        self.assertEqual(list(reader(block).walk()), [
            (0, 0, ("set", "y", 1)),
            (1, 0, outer),
            (2, 1, inner),
            (3, 2, GET),
            (4, 2, loop),
            (5, 3, GET),
            (6, 2, ("set", "x", 0)),
            (7, 2, RETURN),
            (8, 1, ("write", "b", 2)),
            (9, 0, loop),
            (10, 1, GET),
            (11, 0, RETURN),
        ])

    def test_the_generator_is_gone_through_step_by_step(self):
        walk = reader([GET, RETURN]).walk()
        self.assertEqual(next(walk), (0, 0, GET))
        self.assertEqual(next(walk), (1, 0, RETURN))
        self.assertIsNone(next(walk, None))


class WithoutTest(ProgramCase):
    """[3.11]"""

    def test_each_place(self):
        loop = ("while", "x", 0, (GET, ("write", "a", 1)))
        inner = ("if", "y", 1, (GET,), (("set", "x", 0), RETURN))
        outer = ("if", "x", 0, (("write", "b", 2),), (inner,))
        block = (GET, outer, loop, RETURN)
        shorter = [
            (outer, loop, RETURN),
            (GET, loop, RETURN),
            (GET, ("if", "x", 0, (), (inner,)), loop, RETURN),
            (GET, ("if", "x", 0, (("write", "b", 2),), ()), loop, RETURN),
            (GET, changed(outer, 4, (changed(inner, 3, ()),)), loop, RETURN),
            (GET, changed(outer, 4, (changed(inner, 4, (RETURN,)),)), loop, RETURN),
            (GET, changed(outer, 4, (changed(inner, 4, (("set", "x", 0),)),)), loop, RETURN),
            (GET, outer, RETURN),
            (GET, outer, ("while", "x", 0, (("write", "a", 1),)), RETURN),
            (GET, outer, ("while", "x", 0, (GET,)), RETURN),
            (GET, outer, loop),
        ]
        program = reader(block)
        self.assertEqual(program.count, len(shorter))
        for place, rest in enumerate(shorter):
            with self.subTest(place=place):
                self.assertEqual(program.without(place), reader(rest))
                self.assertEqual(program.without(place).block, rest)
        self.assertEqual(program, reader(block))

    def test_the_side_and_the_store_stay(self):
        program = Program("writer", {"y": (4, 3), "x": (2, 1)}, [GET])
        self.assertEqual(program.without(0), Program("writer", {"x": (2, 1), "y": (4, 3)}, []))

    def test_the_rest_is_no_program(self):
        program = reader([GET, ("while", "x", 0, [GET]), RETURN])
        self.raises(BadProgram(1, "idle"), program.without, 2)
        self.assertEqual(program.without(0), reader([("while", "x", 0, [GET]), RETURN]))
        self.assertEqual(program, reader([GET, ("while", "x", 0, [GET]), RETURN]))

    def test_the_place_of_the_error_is_one_of_the_rest(self):
        body = [("if", "x", 0, [GET], [GET])]
        program = reader([("if", "x", 0, [("while", "x", 0, [("while", "y", 0, [GET]), GET])], [])])
        self.raises(BadProgram(2, "idle"), program.without, 3)
        self.raises(BadProgram(1, "idle"), program.without, 4)
        self.raises(BadProgram(0, "idle"), reader([("while", "x", 0, body)]).without, 2)
        self.raises(BadProgram(0, "idle"), reader([("while", "x", 0, body)]).without, 1)

    def test_a_program_of_sixteen_statements(self):
        program = reader([("write", "a", k % 4) for k in range(16)])
        for place in range(16):
            rest = [("write", "a", k % 4) for k in range(16) if k != place]
            self.assertEqual(program.without(place), reader(rest))


class ExamplesTest(ProgramCase):
    """Section 14"""

    def test_examples(self):
        self.bad_reader(0, "idle", [("while", "x", 0, [("set", "x", 1)])], {"x": (2, 0)})
        block = [("if", "x", 1, [("return", 1)], []), ("get", "x", "a")]
        self.assertEqual(list(Program("reader", {"x": (2, 0)}, block).walk()), [
            (0, 0, ("if", "x", 1, (("return", 1),), ())),
            (1, 1, ("return", 1)),
            (2, 0, ("get", "x", "a")),
        ])


if __name__ == "__main__":
    unittest.main()
