import random
import unittest

from cellsatonce.cells import Cell
from cellsatonce.errors import BadProgram, BadText
from cellsatonce.houses import House
from cellsatonce.programs import Program
from cellsatonce.texts import house_text, read_house
from helper import ODD_VALUES, Case
from small_houses import bit, careful, either, empty, endless, near_house, random_house, scanned

# A house with all kinds of statements, of terms and of cells.
RICH = """house 3 1
cell ab regular 4 3 writer
cell b safe 2 0 reader
cell new atomic 3 1 writer
writer
  local b 2 1
  local x 4 0
  write ab new
  set x x+3
  if b 1
    write new x
    while x b
      get b b
      set b 0
    if x 2
      write ab 3
    else
      set x 1
      if b x
      else
        write ab b+0
  else
    get x new
  write ab x
reader
  local writer 2 0
  write b 1
  if writer 0
  get writer ab
  if writer writer
    return writer+1
  else
    return 2"""


def rich():
    """The house of that text."""
    cells = [Cell("ab", "regular", 4, 3), Cell("b", "safe", 2, owner="reader"), Cell("new", "atomic", 3, 1)]
    writer = Program("writer", {"x": (4, 0), "b": (2, 1)}, [
        ("write", "ab", "new"),
        ("set", "x", ("plus", "x", 3)),
        ("if", "b", 1, [
            ("write", "new", "x"),
            ("while", "x", "b", [("get", "b", "b"), ("set", "b", 0)]),
            ("if", "x", 2, [("write", "ab", 3)], [
                ("set", "x", 1), ("if", "b", "x", [], [("write", "ab", ("plus", "b", 0))])]),
        ], [("get", "x", "new")]),
        ("write", "ab", "x"),
    ])
    reader = Program("reader", {"writer": (2, 0)}, [
        ("write", "b", 1),
        ("if", "writer", 0, [], []),
        ("get", "writer", "ab"),
        ("if", "writer", "writer", [("return", ("plus", "writer", 1))], [("return", 2)]),
    ])
    return House(cells, writer, reader, size=3, start=1)


class HouseTextTest(Case):
    """[12.1]"""

    def test_all_kinds_of_lines(self):
        self.assertEqual(house_text(rich()), RICH)

    def test_the_bit(self):
        self.assertEqual(house_text(bit()).split("\n"), [
            "house 2 0", "cell a regular 2 0 writer",
            "writer", "  write a new",
            "reader", "  local x 2 0", "  get x a", "  return x"])

    def test_nothing_at_all(self):
        self.assertEqual(house_text(empty()), "house 2 0\nwriter\nreader")
        self.assertEqual(house_text(empty(4, 3)), "house 4 3\nwriter\nreader")

    def test_variables_without_statements(self):
        store = {"z": (2, 0), "a": (4, 3), "zz": (3, 1)}
        house = House([], Program("writer", store, []), Program("reader", {}, []))
        self.assertEqual(house_text(house), "house 2 0\nwriter\n  local a 4 3\n  local z 2 0\n  local zz 3 1\nreader")

    def test_blocks_that_are_empty(self):
        writer = Program("writer", {"x": (2, 0)}, [
            ("if", "x", 0, [], [("set", "x", 1)]), ("if", "x", 0, [("set", "x", 1)], []), ("if", "x", 0, [], [])])
        self.assertEqual(house_text(House([], writer, empty().reader)), "\n".join([
            "house 2 0", "writer", "  local x 2 0", "  if x 0", "  else", "    set x 1",
            "  if x 0", "    set x 1", "  if x 0", "reader"]))

    def test_three_blocks_deep(self):
        block = [("get", "x", "a")]
        for _ in range(3):
            block = [("if", "x", 0, block, [])]
        text = house_text(House([Cell("a", "safe", 2)], empty().writer, Program("reader", {"x": (2, 0)}, block)))
        self.assertEqual(text.split("\n")[-4:], [
            "  if x 0", "    if x 0", "      if x 0", "        get x a"])

    def test_the_house_stays(self):
        house = rich()
        house_text(house)
        self.assertEqual(house, rich())


class ReadHouseTest(Case):
    """[12.2]: texts of houses"""

    def check(self, house):
        text = house_text(house)
        found = read_house(text)
        self.assertEqual(found, house)
        self.assertEqual(house_text(found), text)

    def test_houses_by_name(self):
        for house in [rich(), bit(), bit("atomic", 4, 3), careful("safe"), scanned("safe", True), endless(), empty(),
                      empty(3, 2), either("safe", "regular", "atomic")]:
            self.check(house)
        self.assertEqual(read_house(RICH), rich())

    def test_random_houses(self):
        for seed in range(600):
            source = random.Random(seed)
            self.check(random_house(source, least=seed % 4) if seed % 2 else near_house(source))

    def test_each_program_of_the_longest_form(self):
        block = [("if", "x", 3, [("set", "x", ("plus", "x", 3))] * 5, [("set", "y", 0)] * 4)]
        block += [("get", "wwwwwwww", "abcdefgh")] * 6
        store = {"x": (4, 0), "y": (3, 2), "wwwwwwww": (2, 1), "a": (2, 0)}
        self.assertEqual(Program("reader", store, block).count, 16)
        cells = [Cell(name, "regular", 4, 3) for name in ["abcdefgh", "b", "c", "zzzzzzzz"]]
        self.check(House(cells, Program("writer", {}, []), Program("reader", store, block), size=4))


class NoStringTest(Case):
    def test_zero(self):
        for value in ODD_VALUES + [["house 2 0", "writer", "reader"], 0, {"house": 2}]:
            if not isinstance(value, str):
                self.raises(BadText(0), read_house, value)


class FormsTest(Case):
    """[12.2]: the number of the first line that has no form"""

    def spoilt(self, at, line):
        """The rich text with another line, the first one being 1."""
        lines = RICH.split("\n")
        lines[at - 1] = line
        return "\n".join(lines)

    def test_strings(self):
        for value in ODD_VALUES:
            if isinstance(value, str):
                self.raises(BadText(1), read_house, value)

    def test_each_way_to_spoil_each_line(self):
        for at, line in enumerate(RICH.split("\n"), start=1):
            wrong = [line + " ", " " + line, line + " x", line + " 1", line.replace(" ", "  ") + "  ", line.upper(),
                     line.title(), "\t" + line, line + "\t", line + "\r", line + "1", "-" + line, line + "+", "",
                     " ", "        ", line + "  ", line[:-1] + "'", "   " + line.lstrip(), "          " + line.lstrip(),
                     line.replace("e", "\u0435", 1) + "\u00b2"]
            words = line.split(" ")
            if len(words) > 1 and line.lstrip(" ") not in ["else", "writer", "reader"]:
                wrong += [" ".join(words[:-1]), line.replace(words[-1], "", 1), "".join(words)]
                indent = len(line) - len(line.lstrip(" "))
                inner = line[indent:]
                wrong += [line[:indent] + inner.replace(" ", "  ", 1), line[:indent] + inner.replace(" ", "\t", 1)]
            wrong.append(line.lstrip(" ") if line.startswith(" ") else "  " + line)
            for row in wrong:
                with self.subTest(at=at, row=row):
                    self.raises(BadText(at), read_house, self.spoilt(at, row))
            self.raises(BadText(at), read_house, "\n".join(RICH.split("\n")[:at - 1] + [""]))

    def test_the_first_of_several(self):
        lines = RICH.split("\n")
        for at in range(1, len(lines) + 1):
            text = "\n".join(lines[:at - 1] + ["no form"] * (len(lines) + 1 - at))
            self.raises(BadText(at), read_house, text)

    def test_lines_without_a_form(self):
        for line in [
            "house 2", "house 2 0 0", "house 10 0", "house 2 a", "house a 0", "house -1 0", "house 2  0", "houses 2 0",
            "  house 2 0", "House 2 0", "house 2 \u0662", "house 2 00", "house 2 +",
            "cell a regular 2 0", "cell a regular 2 0 both", "cell a Regular 2 0 writer", "cell a none 2 0 writer",
            "cell A regular 2 0 writer", "cell abcdefghi regular 2 0 writer", "cell a regular 12 0 writer",
            "cell a regular 2 0 writer reader", "cell  regular 2 0 writer", "cell a writer 2 0 regular",
            "  cell a regular 2 0 writer", "cell a+1 regular 2 0 writer", "cell 1 regular 2 0 writer",
            "writer ", "  writer", "reader 1", "  reader", "    reader", "writers", "both", "writer reader",
            "  local x 2", "  local x 2 0 0", "  local 2 0 x", "  local X 2 0", "  local x 10 0", "local x 2 0",
            "  local x+1 2 0", "  local new+1 2 0", " local x 2 0", "   local x 2 0", "          local x 2 0",
            "  write a", "  write a new x", "  write 1 a", "  write a 10", "  write a x+", "  write a +1",
            "  write a x+10", "  write a x+y", "  write a x+1+1", "  write a x-1", "  write a 1+x", "  write a 1+1",
            "  write a x +1", "  write a+1 x", "write a new", "  write a New", "  write a abcdefghi",
            "  write a abcdefghi+1", "  write a X+1", "  write a x+-1", "  write a ++", "  write a +", "  write a x++1",
            "  get x", "  get x a b", "  get 1 a", "  get x 1", "  get x a+1", "  get x+1 a", "get x a", "  gets x a",
            "  set x", "  set x 1 1", "  set 1 x", "  set x+1 x", "set x 1", "  set x \u00b2",
            "  if x", "  if x 1 1", "  if 1 x", "if x 1", "  if x+1 1", "  if x 1 else", "  elif x 1",
            "  while x", "  while x 1 1", "  while 0 x", "while x 1", "  while",
            "  return", "  return x x", "return x", "  return x+", "  return 10", "  return X",
            "else", "  else x", "  else ", "  Else", "   else", "          else", "  else 0",
            "  __write a 0", "_house 2 0", "  write_ a 0", "  write a_ 0", "  write a _", "  set x x_+1",
            "  plus x 1", "  begin", "0", "  0", "  ", "    ", "\t", "\u00a0",
        ]:
            with self.subTest(line=line):
                self.raises(BadText(1), read_house, line)
                self.raises(BadText(2), read_house, "house 2 0\n" + line)
                self.raises(BadText(3), read_house, "reader\nreader\n" + line + "\n" + line)

    def test_each_word_in_place_of_another(self):
        names = ["zz", "safe", "reader", "new", "if", "else", "none"]
        may_stand = {
            "digit": ["7"], "name": names, "kind": ["safe"], "owner": ["reader"],
            "term": names + ["7", "zz+3", "new+0"],
        }
        words = names + ["7", "12", "zz+3", "new+0", "3+zz", "+", "zz+", "zz+zz", "_"]
        parts = {
            "house": "digit digit", "cell": "name kind digit digit owner", "local": "name digit digit",
            "write": "name term", "get": "name name", "set": "name term", "if": "name term", "while": "name term",
            "return": "term",
        }
        lines = RICH.split("\n")
        for at, line in enumerate(lines):
            indent, inner = len(line) - len(line.lstrip(" ")), line.lstrip(" ").split(" ")
            if inner[0] not in parts:
                continue
            for index, part in enumerate(parts[inner[0]].split(" "), start=1):
                for word in words:
                    other = " " * indent + " ".join(inner[:index] + [word] + inner[index + 1:])
                    text = "\n".join(lines[:at] + [other] + lines[at + 1:])
                    with self.subTest(line=other):
                        if word not in may_stand[part]:
                            self.raises(BadText(at + 1), read_house, text)
                            continue
                        try:
                            self.assertEqual(house_text(read_house(text)), text)
                        except BadText as error:
                            self.assertEqual(error.line, -1)

    def test_lines_that_have_a_form(self):
        for line in [
            "house 0 9", "cell new atomic 9 9 reader", "cell house safe 0 0 writer", "writer", "reader",
            "  local new 0 0", "        local if 9 9", "  write new new+9", "    write local 9", "      get new new",
            "        set x new", "  if new 9", "  if x else", "    while x new+0", "  return new", "        return 0",
            "  else", "    else", "      else", "        else", "  return abcdefgh+9",
        ]:
            with self.subTest(line=line):
                self.raises(BadText(-1), read_house, line)
                self.raises(BadText(-1), read_house, "house 2 0\n" + line)
                self.raises(BadText(3), read_house, "house 2 0\n" + line + "\n")
                self.raises(BadText(-1), read_house, line + "\nwriter\nreader")

    def test_newlines(self):
        self.raises(BadText(1), read_house, "")
        self.raises(BadText(1), read_house, "\n")
        self.raises(BadText(1), read_house, "\n" + RICH)
        many = len(RICH.split("\n"))
        self.raises(BadText(many + 1), read_house, RICH + "\n")
        self.raises(BadText(many + 1), read_house, RICH + "\n\n")
        self.raises(BadText(4), read_house, "house 2 0\nwriter\nreader\n")
        self.raises(BadText(1), read_house, RICH.replace("\n", "\r\n"))
        self.raises(BadText(1), read_house, "house 2 0\x0bwriter\x0breader")
        self.raises(BadText(1), read_house, "house 2 0\rwriter\rreader")
        self.raises(BadText(2), read_house, "house 2 0\nwriter\u2028reader")

    def test_long_texts(self):
        self.raises(BadText(1), read_house, "a" * 4000)
        self.raises(BadText(1), read_house, " " * 4000)
        self.raises(BadText(1), read_house, "\n" * 4000)
        self.raises(BadText(-1), read_house, "\n".join(["  if x 0"] * 400))
        self.raises(BadText(-1), read_house, "\n".join(["house 2 0", "writer"] + ["  if x 0"] * 300 + ["reader"]))
        self.raises(BadText(-1), read_house, "\n".join(["house 2 0", "writer", "reader"] + ["  else"] * 300))


class NoTextTest(Case):
    """[12.2]: lines that have a form each, but that are not the text of a house"""

    def house(self, *, head=("house 2 0",), cells=("cell a regular 2 0 writer",), writer=(), reader=()):
        return "\n".join([*head, *cells, "writer", *writer, "reader", *reader])

    def test_the_frame(self):
        self.assertEqual(read_house(self.house()).cells, (Cell("a", "regular", 2),))

    def test_other_orders_of_lines(self):
        lines = ["house 2 0", "cell a regular 2 0 writer", "writer", "reader"]
        orders = [lines[1:], lines[:-1], lines[:2] + lines[3:], lines[::-1], lines + lines, lines[:1],
                  [lines[1], lines[0]] + lines[2:], lines[:1] + lines[2:3] + lines[1:2] + lines[3:], lines + lines[1:2],
                  lines[:2] + ["reader", "writer"], lines + ["writer"], lines + ["reader"], lines[:1] + lines,
                  lines[:3] + lines[2:], ["writer", "reader"], ["reader"], ["writer"], lines[:2] + ["writer", "writer"],
                  ["  else"] + lines, ["  write a new"] + lines, lines[:1] + ["  write a new"] + lines[1:],
                  lines[:2] + ["  local x 2 0"] + lines[2:], ["house 2 0", "house 2 0", "writer", "reader"],
                  ["cell a regular 2 0 writer"] + lines]
        for order in orders:
            self.raises(BadText(-1), read_house, "\n".join(order))

    def test_each_exchange_of_two_lines(self):
        lines = RICH.split("\n")
        for low in range(len(lines)):
            for high in range(low + 1, len(lines)):
                other = list(lines)
                other[low], other[high] = lines[high], lines[low]
                self.not_the_rich_one("\n".join(other))

    def test_each_line_left_out_or_written_twice(self):
        lines = RICH.split("\n")
        for at in range(len(lines)):
            self.not_the_rich_one("\n".join(lines[:at] + lines[at + 1:]))
            self.not_the_rich_one("\n".join(lines[:at] + lines[at:at + 1] + lines[at:]))

    def test_each_other_indent(self):
        lines = RICH.split("\n")
        for at, line in enumerate(lines):
            if line.startswith(" "):
                for many in [2, 4, 6, 8]:
                    other = " " * many + line.lstrip(" ")
                    self.not_the_rich_one("\n".join(lines[:at] + [other] + lines[at + 1:]))

    def not_the_rich_one(self, text):
        """Either the text of another house or BadText(-1), but nothing else."""
        if text == RICH:
            return
        try:
            found = read_house(text)
        except BadText as error:
            self.assertEqual(error.line, -1)
        else:
            self.assertEqual(house_text(found), text)
            self.assertNotEqual(found, rich())

    def test_an_else_without_an_if(self):
        for writer in [
            ["  else"], ["  else", "    write a 0"], ["  write a 0", "  else", "    write a 0"],
            ["  local x 2 0", "  if x 0", "    else", "    write a 0"],
            ["  local x 2 0", "  while x 0", "    get x a", "  else", "    write a 0"],
            ["  local x 2 0", "  if x 0", "    write a 0", "  else", "    write a 1", "  else", "    write a 1"],
            ["  local x 2 0", "  if x 0", "    write a 0", "    else", "      write a 1"],
            ["  local x 2 0", "  if x 0", "  write a 0", "  else", "    write a 1"],
        ]:
            self.raises(BadText(-1), read_house, self.house(writer=writer))

    def test_a_block_no_that_is_empty(self):
        for tail in [[], ["  write a 1"]]:
            for yes in [[], ["    write a 0"]]:
                writer = ["  local x 2 0", "  if x 0"] + yes + ["  else"] + tail
                self.raises(BadText(-1), read_house, self.house(writer=writer))
                good = ["  local x 2 0", "  if x 0"] + yes + tail
                self.assertEqual(house_text(read_house(self.house(writer=good))), self.house(writer=good))

    def test_an_indent_that_jumps(self):
        for writer in [
            ["    write a 0"], ["  write a 0", "    write a 0"], ["  local x 2 0", "  if x 0", "      write a 0"],
            ["  local x 2 0", "  if x 0", "    write a 0", "      write a 0"],
            ["  local x 2 0", "    if x 0", "  write a 0"], ["    local x 2 0"],
            ["  local x 2 0", "  if x 0", "  else", "      write a 0"],
            ["  local x 2 0", "  if x 0", "    write a 0", "    local y 2 0"],
            ["  local x 2 0", "  if x 0", "    if x 0", "      if x 0", "        if x 0", "        write a 0"],
        ]:
            self.raises(BadText(-1), read_house, self.house(writer=writer))

    def test_local_variables(self):
        for writer in [
            ["  local y 2 0", "  local x 2 0"], ["  local x 2 0", "  local x 2 0"], ["  local x 2 0", "  local x 3 0"],
            ["  write a 0", "  local x 2 0"], ["  local x 2 0", "  set x 0", "  local y 2 0"], ["  local new 2 0"],
            ["  local x 1 0"], ["  local x 5 0"], ["  local x 2 2"], ["  local x 0 0"],
            ["  local %s 2 0" % name for name in "vwxyz"],
            ["  local a 2 0", "  local aa 2 0", "  local ab 2 0", "  local aaa 2 0"],
        ]:
            self.raises(BadText(-1), read_house, self.house(writer=writer))
            self.raises(BadText(-1), read_house, self.house(reader=writer))
        good = ["  local a 2 0", "  local aaa 2 0", "  local ab 4 3", "  local b 3 0"]
        self.assertEqual(house_text(read_house(self.house(writer=good))), self.house(writer=good))

    def test_programs_that_are_refused(self):
        for writer in [
            ["  return 0"], ["  write a x"], ["  write a 4"], ["  write a 9"], ["  set x 0"], ["  get x a"],
            ["  local x 2 0", "  set x x+4"], ["  local x 2 0", "  set x y+1"], ["  local x 2 0", "  set x new+1"],
            ["  local x 2 0", "  while x 0"], ["  local x 2 0", "  while x 0", "    set x 1"],
            ["  write a 0"] * 17,
            ["  local x 2 0", "  if x 0", "    if x 0", "      if x 0", "        if x 0"],
        ]:
            text = self.house(writer=writer)
            self.raises(BadText(-1), read_house, text)
        for reader in [["  return new"], ["  return 0", "  return 0"], ["  local x 2 0", "  set x new"],
                       ["  return 0"] + ["  write a 0"]]:
            self.raises(BadText(-1), read_house, self.house(reader=reader))
        with self.assertRaises(BadProgram):
            Program("writer", {"x": (2, 0)}, [("while", "x", 0, [])])
        self.assertEqual(read_house(self.house(writer=["  write a 0"] * 16)).writer.count, 16)

    def test_cells_and_houses_that_are_refused(self):
        for head in ["house 1 0", "house 5 0", "house 2 2", "house 0 0", "house 9 9", "house 4 4"]:
            self.raises(BadText(-1), read_house, self.house(head=[head]))
        for cell in ["cell a regular 1 0 writer", "cell a regular 5 0 writer", "cell a safe 3 3 reader",
                     "cell a atomic 0 0 writer", "cell a atomic 4 9 writer"]:
            self.raises(BadText(-1), read_house, self.house(cells=[cell]))
        cell = "cell %s regular 2 0 writer"
        self.raises(BadText(-1), read_house, self.house(cells=[cell % "a", cell % "a"]))
        self.raises(BadText(-1), read_house, self.house(cells=[cell % name for name in "abcde"]))
        self.assertEqual(len(read_house(self.house(cells=[cell % name for name in "dcba"])).cells), 4)
        # Cells that are not there, or that the side does not own.
        self.raises(BadText(-1), read_house, self.house(writer=["  write b 0"]))
        self.raises(BadText(-1), read_house, self.house(reader=["  write a 0"]))
        self.raises(BadText(-1), read_house, self.house(cells=["cell a safe 2 0 reader"], writer=["  write a 0"]))
        self.raises(BadText(-1), read_house, self.house(reader=["  local x 2 0", "  get x b"]))

    def test_a_line_without_a_form_comes_first(self):
        # Whatever is wrong with the text as a whole.
        self.raises(BadText(2), read_house, "reader\nhouse 2\nreader")
        self.raises(BadText(4), read_house, "house 9 9\nwriter\n  return 0\n  nothing\nreader")


if __name__ == "__main__":
    unittest.main()
