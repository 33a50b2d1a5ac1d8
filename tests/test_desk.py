"""[43], [44]: desks."""

import random
import unittest

from sumlives.books import Book
from sumlives.deciding import divisor, right_factors, wrong_life
from sumlives.desk import Desk
from sumlives.mending import blamed, least_enough, least_mends
from sumlives.store import Store
from tests.helpers import NO_NAMES, PLAIN, raised
from tests.texts import HOPELESS, MANY, PLAY, RIGHT, SUM, WRONG, book_of

SETS = (SUM + " ; event set open to open amount ; event go open to none ; on come ; add 1 new sum new ; on set"
        " ; add 1 new sum new ; add {} old sum new ; on go ; add -1 old sum old")
BARE = SUM + " ; on come ; mark new"
ASKS = ("right", "factors", "mends", "enough", "blame", "divisor sum")
INVALID = ("InvalidCommand",)


def desk_with(text):
    """A desk with a book."""
    desk = Desk()
    desk.say("book " + text)
    return desk


def command_of(book):
    """The command that lets a desk keep a book."""
    return "book " + str(book).replace("\n", " ; ")


class Books(unittest.TestCase):
    def test_the_number_of_statements(self):
        desk = Desk()
        self.assertEqual(desk.say("book " + SUM), "0 statements")
        self.assertEqual(desk.say("book " + SUM + " ; on come ; add 1 one sum new"), "1 statements")
        self.assertEqual(desk.say("book " + SETS.format(-1)), "4 statements")
        for book in (*RIGHT.values(), *HOPELESS.values(), Book.read(PLAIN)):
            self.assertEqual(desk.say(command_of(book)), f"{len(book)} statements")

    def test_the_errors_of_reading(self):
        for text, at in (("rest", 0), ("rest open", 1), ("rest open ; total sum", 2), (";", 0), ("; rest open", 0),
                         ("rest open ;", 0), ("rest open ; ; total sum", 1), ("rest open ;total sum", 0),
                         ("rest open; total sum", 0), (SUM + " ;", 3), (SUM + " ; on", 4), (SUM + " ; on come ; if moved", 6),
                         (SUM + " ; on come ; add 1 one sum new ; end", 6), ("Rest open", 0), ("rest\topen", 0),
                         (SUM + " ; on come ; ; add 1 one sum new", 5), ("book " + SUM, 0), ("rest open ; ; ; total sum", 1)):
            with self.subTest(text=text):
                self.assertEqual(raised(Desk().say, "book " + text), ("InvalidText", at))

    def test_a_book_that_is_refused_leaves_the_older_one_and_its_store(self):
        desk = desk_with(SETS.format(1))
        desk.say("do x come 5 a")
        for text in ("rest open", "no", SUM + " ; on none", SETS.format("x")):
            self.assertEqual(raised(desk.say, "book " + text)[0], "InvalidText")
            self.assertEqual((desk.say("kept sum a"), desk.say("right"), len(desk)), ("5", "no 2", 1))
        self.assertEqual(raised(desk.say, "book"), INVALID)
        self.assertEqual((desk.say("undo"), desk.say("undo")), ("undone", "nothing"))

    def test_another_book_has_a_new_store(self):
        desk = desk_with(SETS.format(1))
        desk.say("do x come 5 a")
        for text in (SETS.format(-1), SETS.format(-1)):
            self.assertEqual(desk.say("book " + text), "4 statements")
            self.assertEqual((len(desk), desk.say("kept sum a"), desk.say("undo"), desk.say("right")), (0, "0", "nothing", "yes"))
            self.assertEqual(desk.say("do x come 7 a"), "open")

    def test_two_desks(self):
        one, other = desk_with(SETS.format(-1)), Desk()
        one.say("do x come 5 a")
        self.assertEqual(raised(other.say, "right"), INVALID)
        other.say("book " + SETS.format(1))
        self.assertEqual((one.say("right"), other.say("right"), len(one), len(other)), ("yes", "no 2", 1, 0))


class Answers(unittest.TestCase):
    """Each command with each kind of answer."""

    def test_right(self):
        self.assertEqual(desk_with(SETS.format(-1)).say("right"), "yes")
        self.assertEqual(desk_with(SETS.format(1)).say("right"), "no 2")
        for book, many in WRONG.values():
            desk = Desk()
            desk.say(command_of(book))
            self.assertEqual(desk.say("right"), f"no {many}")

    def test_factors(self):
        for text, told in ((SETS.format(5), "1 1 -1 -1"), (SUM + " ; on come ; add 1 new sum new ; add 1 new sum old", "0 1 + 1 -1"),
                           (SUM + " ; on come ; add 1 one sum new", "none"), (PLAY + " ; on come ; add 1 one sum noted", "0 + 1")):
            self.assertEqual(desk_with(text).say("factors"), told)

    def test_mends(self):
        rows = " ; on come ; if new below 5 ; add {} new sum new ; else ; add {} new sum new ; end ; add {} new sum new"
        for text, told in ((SETS.format(-1), "nothing"), (SETS.format(1), "2"), (SUM + rows.format(0, 0, 0), "2 or 0 1"),
                           (SUM + rows.format(2, 0, 0), "0 1 or 0 2 or 1 2"), (SUM + " ; on come ; add 1 one sum new", "never")):
            self.assertEqual(desk_with(text).say("mends"), told)

    def test_enough(self):
        rows = " ; on come ; if new below 5 ; add 7 new sum new ; else ; add 7 new sum new ; end ; add 7 new sum new"
        for text, told in ((SETS.format(-1), "0 1 2 3"), (SUM + rows, "2 or 0 1"), (PLAY + " ; on come ; add 3 one sum new", "nothing"),
                           (SUM + " ; on come ; add 1 one sum new", "never")):
            self.assertEqual(desk_with(text).say("enough"), told)

    def test_blame(self):
        for text, told in ((SETS.format(-1), "nothing"), (SETS.format(1), "come or set"),
                           (SUM + " ; on come ; add 2 new sum new", "never"),
                           (SETS.format(1).replace("add -1 old sum old", "add 1 old sum old"), "come or go set")):
            self.assertEqual(desk_with(text).say("blame"), told)

    def test_divisor(self):
        for text, told in ((SETS.format(-1), "0"), (SETS.format(1), "2"), (SETS.format(5), "6"),
                           (SUM + " ; on come ; add 13 new sum new", "12")):
            self.assertEqual(desk_with(text).say("divisor sum"), told)

    def test_they_are_those_of_the_other_modules(self):
        def joined(sets):
            return " or ".join(" ".join(map(str, some)) or "nothing" for some in sets) or "never"

        for book in (*RIGHT.values(), *[book for book, _ in WRONG.values()], *HOPELESS.values()):
            desk, life = Desk(), wrong_life(book)
            desk.say(command_of(book))
            expected = ["yes" if life is None else f"no {len(life[0])}", str(right_factors(book)), joined(least_mends(book)),
                        joined(least_enough(book)), joined(blamed(book))]
            self.assertEqual([desk.say(command) for command in ASKS[:5]], expected)
            self.assertEqual([desk.say("divisor " + total) for total in book.totals],
                             [str(divisor(book, total)) for total in book.totals])

    def test_do_kept_anew_and_undo(self):
        desk = desk_with(SETS.format(1))
        self.assertEqual([desk.say(command) for command in (
            "do x come -4 a", "kept sum a", "anew sum a", "do y come 0 a", "do x set 6 -", "kept sum a", "anew sum a",
            "kept sum b", "do x go - -", "kept sum a", "anew sum a", "undo", "anew sum a", "undo", "undo", "undo", "undo",
            "kept sum a")],
            ["open", "-4", "-4", "open", "open", "-2", "6", "0", "none", "-8", "0", "undone", "6", "undone", "undone",
             "undone", "nothing", "0"])

    def test_amounts_of_up_to_nine_digits(self):
        desk = desk_with(SETS.format(-1))
        for at, word in enumerate(("0", "7", "-7", "999999999", "-999999999", "100000000")):
            self.assertEqual(desk.say(f"do {'abcdef'[at]} come {word} a"), "open")
            desk.say(f"do {'abcdef'[at]} set {word} -")
            self.assertEqual(desk.say("anew sum a"), desk.say("kept sum a"))

    def test_against_a_store(self):
        for book in (*RIGHT.values(), *HOPELESS.values()):
            rng, desk, store = random.Random(len(str(book))), Desk(), Store(book)
            desk.say(command_of(book))
            for _ in range(40):
                event = rng.choice(book.events).name if rng.random() < 0.9 else "nope"
                key, amount, group = rng.choice("xyz"), rng.choice([None, -5, 0, 12]), rng.choice([None, "a", "b"])
                words = [key, event, "-" if amount is None else str(amount), group or "-"]
                self.assertEqual(raised(desk.say, " ".join(["do", *words])), raised(store.do, key, event, amount, group))
                if rng.random() < 0.2:
                    self.assertEqual(desk.say("undo"), "undone" if store.undo() else "nothing")
                for total in book.totals:
                    self.assertEqual(desk.say(f"kept {total} a"), str(store.kept(total, "a")))
                    self.assertEqual(desk.say(f"anew {total} b"), str(store.anew(total, "b")))
                self.assertEqual(len(desk), len(store))


class Errors(unittest.TestCase):
    """[44]."""

    def assert_invalid(self, *commands):
        full, empty = desk_with(SETS.format(1)), Desk()
        full.say("do x come 5 a")
        for command in commands:
            with self.subTest(command=command):
                self.assertEqual(raised(full.say, command), INVALID)
                self.assertEqual(raised(empty.say, command), INVALID)
        self.assertEqual((full.say("kept sum a"), len(full)), ("5", 1))

    def test_no_string(self):
        self.assert_invalid(None, True, False, 0, 1, -5, (), [], ["right"], ("right",), [["right"]], ("undo", "undo"))

    def test_blanks_newlines_and_tabs(self):
        self.assert_invalid("", " ", "  ")
        for command in ("right", "factors", "mends", "enough", "blame", "divisor sum", "do x go - -", "kept sum a",
                        "anew sum a", "undo", "book " + SUM):
            self.assert_invalid(" " + command, command + " ", command.replace(" ", "  ", 1) + "  ", "\n" + command,
                                command + "\n", command.replace(" ", "\n", 1) + "\n", "\t" + command)
        for command in ("divisor sum", "do x go - -", "kept sum a", "anew sum a", "book " + SUM):
            self.assert_invalid(command.replace(" ", "  ", 1), command.replace(" ", "\n", 1), command.replace(" ", "\t", 1))
        self.assert_invalid("book " + SUM.replace(" ; ", "\n"), "book rest open\n; total sum", "book rest  open", "book  ; a",
                            "right\t", "undo\r", "book " + SUM + "\n")

    def test_unknown_words(self):
        self.assert_invalid("Right", "RIGHT", "wrong", "none", "-", ";", "read", "books " + SUM, "boo k", "say right", "help",
                            "recount", "several", "weights", "paper", "len", "trial", "right;", "\u00e9", "0")

    def test_a_word_more_and_fewer(self):
        self.assert_invalid("book", "right sum", "right yes", "factors sum", "mends 0", "enough 0", "blame come", "divisor",
                            "divisor sum a", "divisor sum sum", "do", "do x", "do x go", "do x go -", "do x go - - -",
                            "do x come 5 a b", "kept", "kept sum", "kept sum a b", "anew", "anew sum", "anew sum a b",
                            "undo 1", "undo undo")

    def test_amounts_that_are_none(self):
        for word in ("-0", "+5", "00", "01", "-01", "1234567890", "-1234567890", "1.0", "1e3", "0x1", "five", "--", "-a", "1_0",
                     "\u0661", "None", "5-", "1,0", "0000000001"):
            self.assert_invalid(f"do x set {word} -", f"do y come {word} a", f"do nope nope {word} none")

    def test_groups_that_are_none(self):
        for word in [word for word in NO_NAMES if isinstance(word, str) and word] + ["-", "ab-", "5"]:
            if " " not in word and "\n" not in word:
                self.assert_invalid(f"kept sum {word}", f"anew sum {word}", f"kept all {word}")

    def test_ahead_of_a_book(self):
        desk = Desk()
        for command in (*ASKS, "divisor all", "do x come 5 a", "do none nope - -", "kept sum a", "kept all a", "anew sum a",
                        "undo"):
            self.assertEqual(raised(desk.say, command), INVALID)
        self.assertEqual(raised(desk.say, "book rest open"), ("InvalidText", 1))
        self.assertEqual((raised(desk.say, "undo"), len(desk)), (INVALID, 0))

    def test_the_errors_of_do(self):
        desk = desk_with(SETS.format(1) + "")
        desk.say("do x come 5 a")
        for words, word in (("none go - -", "key"), ("X go - -", "key"), ("- go - -", "key"), ("abcde go 5 -", "key"),
                            ("x nope - -", "event"), ("x come 5 a", "event"), ("y go - -", "event"), ("x - - -", "event"),
                            ("none nope 5 none", "key"), ("x nope 5 none", "event"), ("x set - -", "amount"),
                            ("x go 5 -", "amount"), ("x set - a", "amount"), ("y come - none", "amount"), ("x set 5 a", "group"),
                            ("y come 5 -", "group"), ("y come 5 none", "group"), ("y come 5 abcde", "group"),
                            ("x go - a", "group"), ("y come 5 A", "group")):
            with self.subTest(words=words):
                self.assertEqual(raised(desk.say, "do " + words), ("Refused", word))
        self.assertEqual((len(desk), desk.say("kept sum a")), (1, "5"))

    def test_no_total(self):
        desk = desk_with(SETS.format(1))
        for total in ("all", "come", "Sum", "none", "-", "5", "toolong", "su"):
            for command in (f"kept {total} a", f"anew {total} a", f"divisor {total}"):
                self.assertEqual(raised(desk.say, command), ("NoTotal", total))

    def test_a_book_without_statements(self):
        desk = desk_with(BARE)
        for command in (*ASKS, "divisor all", "divisor none"):
            self.assertEqual(raised(desk.say, command), ("Mismatch",))
        self.assertEqual([desk.say(command) for command in ("do x come 5 a", "kept sum a", "anew sum a", "undo", "undo")],
                         ["open", "0", "5", "undone", "nothing"])
        self.assertEqual(raised(desk.say, "kept all a"), ("NoTotal", "all"))
        self.assertEqual(raised(desk.say, "divisor"), INVALID)
        # Even a book that never comes to rest is none without statements.
        other = desk_with("rest open ; total sum ; event go open to none")
        self.assertEqual(raised(other.say, "right"), ("Mismatch",))


class Lengths(unittest.TestCase):
    def test_len(self):
        desk = Desk()
        self.assertEqual(len(desk), 0)
        desk.say("book " + SETS.format(1))
        self.assertEqual(len(desk), 0)
        for at, command in enumerate(("do x come 5 a", "do x set 6 -", "do x go - -")):
            desk.say(command)
            for other in (*ASKS, "kept sum a", "anew sum a"):
                desk.say(other)
            self.assertEqual(len(desk), at + 1)
        for at in (2, 1, 0, 0, 0):
            desk.say("undo")
            self.assertEqual(len(desk), at)
        self.assertEqual(raised(desk.say, "do x go - -"), ("Refused", "event"))
        self.assertEqual(len(desk), 0)

    def test_not_iterable(self):
        for desk in (Desk(), desk_with(SETS.format(1))):
            with self.assertRaises(TypeError):
                iter(desk)

    def test_books_of_several_totals_and_kinds(self):
        desk = Desk()
        for name in ("two totals", "a note and a mark", "two cuts"):
            self.assertEqual(desk.say(command_of(RIGHT[name])), "4 statements")
            self.assertEqual(desk.say("right"), "yes")
        desk.say(command_of(book_of(MANY, "on come ; add 1 one many new")))
        self.assertEqual((desk.say("divisor many"), raised(desk.say, "divisor sum")), ("0", ("NoTotal", "sum")))


if __name__ == "__main__":
    unittest.main()
