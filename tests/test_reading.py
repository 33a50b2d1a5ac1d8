"""[21]: texts of books."""

import random
import unittest

from sumlives.books import Book
from sumlives.parts import Event, Handler, Worth
from sumlives.rows import Add, If, Mark, Moved, NewBelow, Not, Noted, OldBelow, Put, Was
from tests.helpers import NO_NAMES, PLAIN, package_objects, raised
from tests.reference import first_wrong

LINES = """rest open
rest paid
pass way
pass back
total sum
total many
note n
note m
worth sum open 1 amount
worth sum paid -2 one from 0
worth many open 3 amount below 10
worth many open 123456 one from -5 below 999999
event come none to open amount group
event set open paid to paid amount
event move open to way group
event both way to back amount group
event back back to paid
event go open paid way to none
on go
add -1 old sum old
on come
put n new
if not was paid
add 1 new sum new
if moved
if not not old below -7
mark old
else
put m n
end
else
add 2 one many noted
end
else
if new below 100
end
mark none
end
add 0 m many new
on back
on set
if noted
mark new
end""".split("\n")

WHOLE = Book(
    ["open", "paid"], ["way", "back"], ["sum", "many"], ["n", "m"],
    [Worth("sum", "open", 1, "amount"), Worth("sum", "paid", -2, "one", 0),
     Worth("many", "open", 3, "amount", None, 10),
     Worth("many", "open", 123456, "one", -5, 999999)],
    [Event("come", ["none"], "open", True, True), Event("set", ["open", "paid"], "paid", True),
     Event("move", ["open"], "way", False, True), Event("both", ["way"], "back", True, True),
     Event("back", ["back"], "paid"), Event("go", ["open", "paid", "way"], "none")],
    [Handler("go", [Add(-1, "old", "sum", "old")]),
     Handler("come", [
         Put("n", "new"),
         If(Not(Was("paid")), [
             Add(1, "new", "sum", "new"),
             If(Moved(), [If(Not(Not(OldBelow(-7))), [Mark("old")], [Put("m", "n")])],
                [Add(2, "one", "many", "noted")]),
         ], [If(NewBelow(100), []), Mark("none")]),
         Add(0, "m", "many", "new")]),
     Handler("back"),
     Handler("set", [If(Noted(), [Mark("new")])])])

# A book to which a line is added at a time.
HEAD = ["rest open", "pass way", "total sum", "note n", "worth sum open 1 one", "event come none to open amount group",
        "event set open to way amount", "on come"]


def read(lines):
    return Book.read("\n".join(lines))


def wrong_line(lines):
    """The number that is told of the text of these lines, or None if it is read."""
    told = raised(read, lines)
    return None if told is None else told[1]


class Right(unittest.TestCase):
    """[21]: texts that are read."""

    def test_back_and_forth(self):
        self.assertEqual(str(WHOLE).split("\n"), LINES)
        self.assertEqual(read(LINES), WHOLE)
        book = read(LINES)
        for name in ("rests", "passes", "totals", "notes", "worths", "events", "handlers", "factors", "cuts"):
            self.assertEqual(getattr(book, name), getattr(WHOLE, name))
            self.assertIs(type(getattr(book, name)), tuple)
        self.assertEqual(str(book).split("\n"), LINES)
        self.assertEqual(str(Book.read(PLAIN)), PLAIN)

    def test_the_least_text(self):
        text = "rest a\ntotal s\nevent e a to a"
        self.assertEqual(Book.read(text), Book(["a"], [], ["s"], [], [], [Event("e", ["a"], "a")], []))
        self.assertEqual(str(Book.read(text)), text)

    def test_an_else_without_rows_is_read_but_not_written(self):
        text = "\n".join([*HEAD, "if moved", "add 1 one sum new", "else", "end"])
        self.assertEqual(str(Book.read(text)), text.replace("else\n", ""))
        self.assertEqual(Book.read(text).handlers[0].rows, (If(Moved(), [Add(1, "one", "sum", "new")]),))
        self.assertEqual(str(read([*HEAD, "if moved", "else", "end"])), "\n".join([*HEAD, "if moved", "end"]))

    def test_a_handler_without_rows_is_read_and_written(self):
        for lines in ([*HEAD], [*HEAD, "on set"], [*HEAD, "on set", "mark old"], [*HEAD, "mark old", "on set"]):
            self.assertEqual(str(read(lines)).split("\n"), lines)
        self.assertEqual(read([*HEAD, "on set"]).handlers, (Handler("come"), Handler("set")))

    def test_what_was_made_by_hand_is_read(self):
        test = Was("none")
        for _ in range(8):
            test = Not(test)
        block = If(test, [If(Noted(), [If(Moved(), [], [Mark("none")])])], [If(test, [])])
        book = Book(["a"], [], ["s"], [], [Worth("s", "a", 0, "one", -999999, 999999)], [Event("e", ["a"], "a")],
                    [Handler("e", [block, Add(-999999, "old", "s", "noted")])])
        self.assertEqual(Book.read(str(book)), book)

    def test_numbers(self):
        for number in ("0", "1", "-1", "10", "-10", "999999", "-999999", "100000"):
            self.assertEqual(read([*HEAD, f"add {number} one sum new"]).factors, (int(number),))
            self.assertEqual(read([*HEAD, f"if old below {number}", "end"]).cuts, (int(number),))
            self.assertEqual(read([*HEAD, f"if not new below {number}", "end"]).cuts, (int(number),))
            for bounds in (f"from {number}", f"below {number}"):
                self.assertEqual(read([*HEAD[:5], f"worth sum open {number} amount {bounds}", *HEAD[5:]]).cuts,
                                 (int(number),))


class Wrong(unittest.TestCase):
    """[21]: InvalidText with the number of the first wrong line."""

    def assert_wrong(self, line, head=HEAD, tail=()):
        """Tests that this line is wrong behind these others, whatever stands behind it."""
        with self.subTest(line=line, head=len(head)):
            for rest in ([], list(tail), ["nothing of this"], [""]):
                self.assertEqual(raised(read, [*head, line, *rest]), ("InvalidText", len(head)))

    def test_other_values(self):
        for value in [None, True, False, 0, 5, (), [], [PLAIN], (PLAIN,), *package_objects()]:
            self.assertEqual(raised(Book.read, value), ("InvalidText", 0))

    def test_empty_lines(self):
        self.assertEqual(raised(Book.read, ""), ("InvalidText", 0))
        self.assertEqual(raised(Book.read, "\n"), ("InvalidText", 0))
        self.assertEqual(raised(Book.read, "\n" + PLAIN), ("InvalidText", 0))
        self.assertEqual(raised(Book.read, PLAIN + "\n"), ("InvalidText", 12 + 1))
        for at in range(len(LINES) + 1):
            self.assertEqual(wrong_line([*LINES[:at], "", *LINES[at:]]), at)

    def test_only_newlines_end_lines(self):
        for other in ("\r", "\r\n", "\t", "\x0b", "\x0c", "\u2028", "\x85"):
            self.assertEqual(raised(Book.read, PLAIN.replace("\n", other)), ("InvalidText", 0))
            self.assertEqual(raised(Book.read, PLAIN.replace(" ", other)), ("InvalidText", 0))

    def test_blanks(self):
        for at, line in enumerate(LINES):
            for wrong in (" " + line, line + " ", line.replace(" ", "  ", 1), line.replace(" ", "\t", 1), line + "\r"):
                if wrong != line:
                    self.assertEqual(wrong_line([*LINES[:at], wrong, *LINES[at + 1:]]), at, wrong)
            for place, letter in enumerate(line):
                if letter == " ":
                    wrong = line[:place] + " " + line[place:]
                    self.assertEqual(wrong_line([*LINES[:at], wrong, *LINES[at + 1:]]), at, wrong)

    def test_a_word_more(self):
        for at, line in enumerate(LINES):
            words = line.split(" ")
            for place in range(len(words) + 1):
                for word in ("sum", "open", "zz", "7", "amount", "on", "not", "else", "?"):
                    self.compare([*LINES[:at], " ".join([*words[:place], word, *words[place:]]), *LINES[at + 1:]])
        for line in ("rest a a", "pass b b", "total s s", "note k k", "on set set", "else else", "mark old old"):
            self.assertEqual(wrong_line([*LINES[:1], line]), 1)

    def test_a_word_fewer(self):
        for at, line in enumerate(LINES):
            words = line.split(" ")
            for place in range(len(words)):
                self.compare([*LINES[:at], " ".join([*words[:place], *words[place + 1:]]), *LINES[at + 1:]])
            for length in range(1, len(words)):
                self.compare([*LINES[:at], " ".join(words[:length])])

    def test_another_word(self):
        for at, line in enumerate(LINES):
            words = line.split(" ")
            for place in range(len(words)):
                for word in ("", "?", "zzzzz", "Old", "none?", "1x", "on\u00e9", "to to"):
                    wrong = " ".join([*words[:place], word, *words[place + 1:]])
                    self.assertEqual(wrong_line([*LINES[:at], wrong, *LINES[at + 1:]]), at, wrong)

    def test_names_that_are_none(self):
        for name in [name for name in NO_NAMES if isinstance(name, str) and "\n" not in name]:
            for at, line in enumerate(("rest ", "pass ", "total ", "note ")):
                self.assert_wrong(line + name, HEAD[:at])
            self.assert_wrong(f"worth {name} open 1 one", HEAD[:4])
            self.assert_wrong(f"worth sum {name} 1 one", HEAD[:4])
            self.assert_wrong(f"event {name} none to open amount group", HEAD[:5])
            if name not in ("none", "to"):
                self.assert_wrong(f"event set {name} to open", HEAD[:5])
            if name != "none":
                self.assert_wrong(f"event set open to {name}", HEAD[:5])
                self.assert_wrong(f"if was {name}")
            self.assert_wrong(f"event set open {name} to open", HEAD[:5])
            self.assert_wrong(f"on {name}", HEAD[:7])
            self.assert_wrong(f"add 1 one {name} new")
            self.assert_wrong(f"put {name} old")
            if name not in ("old", "new", "one"):
                self.assert_wrong(f"add 1 {name} sum new")
                self.assert_wrong(f"put n {name}")

    def test_names_that_the_book_has_not(self):
        for line, many in (("worth all open 1 one", 5), ("worth sum way 1 one", 5), ("worth n open 1 one", 5),
                           ("worth sum none 1 one", 5), ("event x none to all amount group", 6),
                           ("event x open all to open", 6), ("event x all to none", 6), ("event x open to sum", 6),
                           ("on x", 8), ("on open", 8), ("add 1 one n new", 8), ("add 1 sum sum new", 8),
                           ("add 1 x sum new", 8), ("put sum old", 8), ("put x old", 8), ("put n x", 8),
                           ("if was x", 8),
                           ("if was come", 8), ("if not was x", 8), ("if not not was x", 8)):
            self.assert_wrong(line, HEAD[:many])
            self.assert_wrong(line, HEAD[:many], HEAD[many:])
        for line in ("add 1 one x new", "put x old", "if not was x"):
            self.assert_wrong(line, [*HEAD, "if moved", "if noted"], ["end", "end"])
            self.assert_wrong(line, [*HEAD, "if moved", "if noted", "end", "else", "if noted"], ["end", "end"])

    def test_names_for_the_second_time(self):
        for line, many in (("rest open", 1), ("pass way", 2), ("pass open", 1), ("pass open", 2), ("total sum", 3),
                           ("note n", 4), ("event come none to open amount group", 6),
                           ("event come open to open", 6),
                           ("event set open to way amount", 7), ("on come", 8)):
            self.assert_wrong(line, HEAD[:many], HEAD[many:])
        self.assert_wrong("on come", [*HEAD, "mark old", "on set"])
        self.assertIsNone(wrong_line([*HEAD[:5], HEAD[4], *HEAD[4:]]))

    def test_lines_of_another_order(self):
        lines = ["rest a", "pass b", "total s", "note k", "worth sum open 1 one", "event x open to open", "on set"]
        lengths = [1, 2, 3, 4, 5, 7, 8]
        for later, length in enumerate(lengths):
            for line in lines[:later]:
                self.assert_wrong(line, HEAD[:length])
            self.assertIsNone(wrong_line([*HEAD[:length], lines[later], *HEAD[length:]]))
        for line in lines[:-1]:
            self.assert_wrong(line, [*HEAD, "mark old"])
            self.assert_wrong(line, [*HEAD, "if moved"])

    def test_lines_left_out_twice_and_exchanged(self):
        for at, line in enumerate(LINES):
            self.compare([*LINES[:at], *LINES[at + 1:]])
            self.compare([*LINES[:at], line, *LINES[at:]])
            self.compare([*LINES[:at], *LINES[at + 1:at + 2], line, *LINES[at + 2:]])

    def test_two_lines_are_wrong(self):
        for at in range(len(LINES)):
            for later in range(at + 1, len(LINES)):
                lines = list(LINES)
                lines[at], lines[later] = lines[at] + " ?", lines[later] + " "
                self.assertEqual(wrong_line(lines), at)

    def test_lines_of_blocks(self):
        for line in ("else", "end"):
            self.assert_wrong(line)
            self.assert_wrong(line, HEAD[:7])
            self.assert_wrong(line, [*HEAD, "if moved", "end"])
            self.assert_wrong(line, [*HEAD, "if moved", "else", "end"])
            self.assert_wrong(line, [*HEAD, "mark old"])
            self.assert_wrong(line, [*HEAD, "if moved", "end", "on set"])
        self.assert_wrong("else", [*HEAD, "if moved", "else"])
        self.assert_wrong("else", [*HEAD, "if moved", "mark old", "else", "mark new"])
        self.assert_wrong("else", [*HEAD, "if moved", "else", "if noted", "else", "end"])
        self.assertIsNone(wrong_line([*HEAD, "if moved", "else", "if noted", "else", "end", "end"]))

    def test_rows_ahead_of_the_first_handler(self):
        for line in ("add 1 one sum new", "put n old", "mark old", "if moved", "else", "end"):
            self.assert_wrong(line, HEAD[:7], HEAD[7:])

    def test_a_handler_amid_a_block(self):
        self.assert_wrong("on set", [*HEAD, "if moved"], ["end"])
        self.assert_wrong("on set", [*HEAD, "if moved", "else"], ["end"])
        self.assert_wrong("on set", [*HEAD, "if moved", "if noted", "end"], ["end"])
        self.assertIsNone(wrong_line([*HEAD, "if moved", "end", "on set"]))

    def test_the_text_ends_too_early(self):
        for lines in (["pass way", "total sum", "event x way to way"], ["total sum"], ["rest open"],
                      ["rest open", "pass way"], ["rest open", "total sum"],
                      ["rest open", "total sum", "note n", "worth sum open 1 one"],
                      ["rest open", "event x open to open"],
                      ["rest open", "event x open to open", "on x", "mark old"],
                      ["pass way", "event x way to way", "on x"], [*HEAD, "if moved"], [*HEAD, "if moved", "else"],
                      [*HEAD, "if moved", "if noted", "end"], [*HEAD, "if moved", "end", "if noted", "mark old"]):
            self.assertEqual(raised(read, lines), ("InvalidText", len(lines)), lines)
        self.assertEqual(raised(read, ["rest open", "event x open to open", "on x", "add 1 one sum new"]),
                         ("InvalidText", 3))

    def test_numbers(self):
        for number in ("00", "01", "-0", "-01", "+1", "+0", "1234567", "-1234567", "0000001", "1.0", "1_0", "0x1",
                       "--1", "-",
                       "\u0661", "\u00b2", "one"):
            self.assert_wrong(f"worth sum open {number} one", HEAD[:4])
            self.assert_wrong(f"worth sum open 1 one from {number}", HEAD[:4])
            self.assert_wrong(f"worth sum open 1 one below {number}", HEAD[:4])
            self.assert_wrong(f"worth sum open 1 one from 1 below {number}", HEAD[:4])
            self.assert_wrong(f"worth sum open 1 one from {number} below 9", HEAD[:4])
            self.assert_wrong(f"add {number} one sum new")
            self.assert_wrong(f"if old below {number}")
            self.assert_wrong(f"if not new below {number}")

    def test_worths(self):
        for line in ("worth sum open 1 old", "worth sum open 1", "worth sum open", "worth sum open 1 one from",
                     "worth sum open 1 one below", "worth sum open 1 one from 1 below",
                     "worth sum open 1 one below 2 from 1", "worth sum open 1 one from 2 below 2",
                     "worth sum open 1 one from 2 below 1", "worth sum open 1 one from 1 from 1",
                     "worth sum open 1 one below 1 below 1", "worth sum open 1 one 5",
                     "worth sum open 1 one from 1 below 2 3", "worth sum open 1 one below below 1", "worth"):
            self.assert_wrong(line, HEAD[:4], HEAD[4:])

    def test_events(self):
        for line in ("event", "event set", "event set to", "event set to open", "event set open", "event set open to",
                     "event to open to open", "event set open open to open",
                     "event set none open to open amount group", "event set open none to open",
                     "event set none to none", "event set none to none amount group", "event set none to open",
                     "event set none to open amount", "event set none to open group",
                     "event set open to none amount", "event set open to none group",
                     "event set open to none amount group", "event set open to open group amount",
                     "event set open to open amount amount", "event set open to open amount group group",
                     "event set open to open open", "event set open to to open",
                     "event set open to open to open", "event set open amount to open"):
            self.assert_wrong(line, HEAD[:5], HEAD[5:])

    def test_rows(self):
        for line in ("add", "add 1 one sum", "add 1 one sum none", "add 1 one sum own", "add 1 amount sum new",
                     "add one 1 sum new", "put", "put n", "put n amount", "put n 1", "put old n", "mark",
                     "mark noted", "mark n", "if", "if not", "if not not", "if was", "if was old",
                     "if was not moved", "if old", "if old below", "if old above 1", "if one below 1", "if below 1",
                     "if new old below 1", "if moved not", "if noted moved", "if moved 1", "if noting", "if Moved",
                     "moved", "not", "put 1 one sum new", "mark 1 one sum new", "mark n old", "add n old",
                     "put old", "add new", "Add 1 one sum new", "elif moved", "comment", "#"):
            self.assert_wrong(line, HEAD, ["end"])
            self.assert_wrong(line, [*HEAD, "if moved", "else"], ["end"])

    def test_many_texts(self):
        chance = random.Random(21)
        for _ in range(1500):
            lines = list(LINES)
            for _ in range(chance.randrange(1, 4)):
                at, other = chance.randrange(len(lines)), chance.randrange(len(LINES))
                lines[at:at + chance.randrange(2)] = [LINES[other]] * chance.randrange(1, 3)
            self.compare(lines)
            self.compare(lines[:chance.randrange(len(lines))])

    def compare(self, lines):
        """Tests that what is told of a text is what the second reading of the document tells."""
        with self.subTest(lines=lines):
            self.assertEqual(wrong_line(lines), first_wrong(lines))


if __name__ == "__main__":
    unittest.main()
