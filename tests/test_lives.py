"""[22] to [26]: lives."""

import itertools
import random
import unittest

from sumlives.books import Book
from sumlives.lives import Life, run_life
from sumlives.parts import Event, Handler, Worth
from sumlives.rows import Add, If, Mark, Moved, NewBelow, Not, Noted, OldBelow, Put, Was
from tests.helpers import NO_INTEGERS, NO_NAMES, PLAIN, package_objects, raised
from tests.reference import lived

HEAD = """rest open
rest paid
pass way
total sum
total many
note n
note m
worth sum open 1 amount
worth sum paid 2 amount below 10
worth many paid 1 one
event come none to open amount group
event late none to way amount group
event set open paid to paid amount
event move open paid way to open group
event both open way to way amount group
event rest way to paid
event go open paid way to none"""


def book_of(*rows):
    """A book with these rows behind its head."""
    return Book.read("\n".join([HEAD, *rows]))


def after(rows, deeds):
    """A life of a book with these rows."""
    return run_life(book_of(*rows), deeds)


COME = ("come", 7, "a")


def whole(life):
    """All that is told of a life."""
    groups = ("a", "b", "c", "zz")
    asks = [(ask, total) for ask in (life.kept, life.worth, life.off) for total in ("sum", "many")]
    return (life.kind, life.amount, life.group, life.notes, life.noted, life.groups, life.at_rest,
            [life.sums(group) for group in groups], [ask(total, group) for ask, total in asks for group in groups])


class Deeds(unittest.TestCase):
    """[22], [24]: what is no life."""

    BOOK = book_of("on come", "add 1 new sum new")
    BEFORE = [[], [COME], [COME, ("set", 5, None)], [COME, ("move", None, "b"), ("go", None, None)]]

    def assert_refused(self, deed, before=((COME,),)):
        for deeds in before:
            for behind in ([], [deed], ["x"], [COME]):
                with self.subTest(deed=deed, before=deeds):
                    self.assertEqual(raised(run_life, self.BOOK, [*deeds, deed, *behind]), ("InvalidLife", len(deeds)))
                    self.assertEqual(raised(run_life, self.BOOK, (*deeds, deed, *behind)), ("InvalidLife", len(deeds)))

    def test_no_sequence(self):
        for deeds in [None, True, False, 0, 1, "", "come", PLAIN, *package_objects()]:
            self.assertEqual(raised(run_life, self.BOOK, deeds), ("InvalidLife", 0))

    def test_a_triple_in_the_place_of_the_deeds(self):
        self.assertEqual(raised(run_life, self.BOOK, COME), ("InvalidLife", 0))
        self.assertEqual(raised(run_life, self.BOOK, list(COME)), ("InvalidLife", 0))
        self.assertEqual(raised(run_life, self.BOOK, ((COME,),)), ("InvalidLife", 0))

    def test_no_triple(self):
        wrong = [None, True, 0, "", "come", "abc", (), [], ("come",), ("come", 7), ("come", 7, "a", None), [*COME],
                 (COME,),
                 [COME], ((),) * 3, ("set", 5), ["set", 5, None], ("go",), (None, None, None), ["go", None, None]]
        for deed in wrong:
            self.assert_refused(deed, self.BEFORE)

    def test_no_event(self):
        for name in [*NO_NAMES, "open", "sum", "comes", "cume", ["come"], ("come",), "Come"]:
            for amount, group in ((None, None), (7, "a"), (True, True)):
                self.assert_refused((name, amount, group), self.BEFORE)

    def test_an_event_that_is_not_possible_now(self):
        self.assert_refused(("set", 5, None), [[], [("late", 1, "a")], [COME, ("go", None, None)]])
        self.assert_refused(("come", 7, "a"), [[COME], [COME, ("set", 5, None)], [("late", 1, "b")]])
        self.assert_refused(("rest", None, None), [[], [COME], [COME, ("set", 1, None)],
                                                   [("late", 1, "a"), ("rest", None, None)]])
        self.assert_refused(("both", 5, "a"), [[], [COME, ("set", 5, None)]])
        self.assert_refused(("go", None, None), [[], [COME, ("go", None, None)]])

    def test_wrong_amounts(self):
        for amount in NO_INTEGERS:
            self.assert_refused(("come", amount, "a"), [[], [COME, ("go", None, None)]])
            self.assert_refused(("set", amount, None))
            self.assert_refused(("both", amount, "b"))
        for amount in [value for value in NO_INTEGERS if value is not None] + [0, 5]:
            self.assert_refused(("move", amount, "b"))
            self.assert_refused(("go", amount, None))
            self.assert_refused(("rest", amount, None), [[("late", 1, "a")]])

    def test_wrong_groups(self):
        for group in NO_NAMES:
            self.assert_refused(("come", 7, group), [[], [COME, ("go", None, None)]])
            self.assert_refused(("move", None, group))
            self.assert_refused(("both", 5, group))
        for group in [value for value in NO_NAMES if value is not None] + ["a", "b"]:
            self.assert_refused(("set", 5, group))
            self.assert_refused(("go", None, group))
            self.assert_refused(("rest", None, group), [[("late", 1, "a")]])

    def test_two_deeds_are_wrong(self):
        self.assertEqual(raised(run_life, self.BOOK, [COME, COME, None]), ("InvalidLife", 1))
        self.assertEqual(raised(run_life, self.BOOK, [COME, ("set", 1, None), ("go", None, 1), ("x", 1, 1)]),
                         ("InvalidLife", 2))
        self.assertEqual(raised(run_life, self.BOOK, [("go", None, None), COME]), ("InvalidLife", 0))

    def test_a_record_that_is_gone_may_come_again(self):
        life = run_life(self.BOOK, [COME, ("go", None, None), ("come", 2, "b"), ("go", None, None), ("come", 3, "a")])
        self.assertEqual((life.kind, life.amount, life.group, life.groups), ("open", 3, "a", ("a", "b")))
        self.assertEqual((life.sums("a"), life.sums("b")), ((10,), (2,)))

    def test_lists_and_tuples_of_deeds(self):
        deeds = [COME, ("set", 5, None)]
        life = run_life(self.BOOK, deeds)
        self.assertEqual(run_life(self.BOOK, tuple(deeds)), life)
        self.assertEqual(run_life(deeds=deeds, book=self.BOOK), life)
        before = whole(life)
        deeds.clear()
        self.assertEqual(whole(life), before)


class States(unittest.TestCase):
    """[23], [25]: the record behind a life."""

    def test_no_deeds(self):
        for deeds in ([], ()):
            life = after(["on come", "add 1 new sum new"], deeds)
            self.assertEqual(whole(life)[:7], ("none", 0, None, (0, 0), None, (), True))
            self.assertEqual((life.sums("a"), life.off("sum", "a")), ((0,), 0))

    def test_kinds_amounts_and_groups(self):
        told = []
        deeds = [COME, ("set", -5, None), ("move", None, "b"), ("both", 10 ** 9, "c"), ("rest", None, None),
                 ("go", None, None),
                 ("late", 0, "b"), ("move", None, "b")]
        for length in range(len(deeds) + 1):
            life = after([], deeds[:length])
            told.append((life.kind, life.amount, life.group, life.groups, life.at_rest))
        self.assertEqual(told, [
            ("none", 0, None, (), True), ("open", 7, "a", ("a",), True), ("paid", -5, "a", ("a",), True),
            ("open", -5, "b", ("a", "b"), True), ("way", 10 ** 9, "c", ("a", "b", "c"), False),
            ("paid", 10 ** 9, "c", ("a", "b", "c"), True), ("none", 0, None, ("a", "b", "c"), True),
            ("way", 0, "b", ("a", "b", "c"), False), ("open", 0, "b", ("a", "b", "c"), True)])

    def test_groups_ascend(self):
        deeds = [("come", 1, "zz"), *[("move", None, group) for group in ("b", "ab", "zz", "a", "b", "aaaa")]]
        life = after([], deeds)
        self.assertEqual(life.groups, ("a", "aaaa", "ab", "b", "zz"))
        self.assertIs(type(life.groups), tuple)

    def test_a_record_that_is_gone(self):
        rows = ["on come", "put n new", "put m one", "mark new", "add 5 n sum new", "on go", "put m old", "mark old",
                "add 1 m sum noted"]
        life = after(rows, [COME, ("go", None, None)])
        self.assertEqual((life.kind, life.amount, life.group, life.notes, life.noted), ("none", 0, None, (0, 0), None))
        self.assertEqual((life.groups, life.at_rest, life.sums("a")), (("a",), True, (7, 7)))
        self.assertEqual((life.kept("sum", "a"), life.worth("sum", "a"), life.off("sum", "a")), (42, 0, 42))
        rows += ["on late", "add 1 n sum new", "if noted", "add 1 one many new", "end", "add 1 one many noted"]
        life = after(rows, [COME, ("go", None, None), ("late", 3, "a")])
        self.assertEqual((life.sums("a"), life.notes, life.noted), ((7, 7, 0, 0, 0), (0, 0), None))

    def test_what_is_returned_is_a_life(self):
        life = after([], [COME])
        self.assertIsInstance(life, Life)
        self.assertEqual([type(part) for part in (life.notes, life.groups, life.sums("a"), life.sums("x"))],
                         [tuple] * 4)
        with self.assertRaises(TypeError):
            iter(life)
        for name in ("kind", "amount", "group", "notes", "noted", "groups"):
            self.assertIn(name, vars(life))


class Rows(unittest.TestCase):
    """[12], [13], [23]: what the rows do."""

    def sums(self, rows, deeds, *groups):
        life = after(rows, deeds)
        return [life.sums(group) for group in groups]

    def test_what_is_told(self):
        rows = ["on set", "add 1 old sum new", "add 1 new sum new", "add 5 one sum new", "add 1 n sum new"]
        self.assertEqual(self.sums(rows, [COME, ("set", 30, None)], "a", "b"), [(7, 30, 1, 0), (0, 0, 0, 0)])
        self.assertEqual(self.sums(rows, [COME, ("set", 30, None), ("set", -4, None)], "a"), [(37, 26, 2, 0)])

    def test_amounts_of_a_record_that_comes_or_goes(self):
        rows = ["on come", "add 1 old sum new", "add 1 new sum new", "add 1 one many old", "on go", "add 1 old sum old",
                "add 1 new sum old", "add 1 one many new"]
        self.assertEqual(self.sums(rows, [COME], "a"), [(0, 7, 1, 0, 0, 0)])
        self.assertEqual(self.sums(rows, [COME, ("go", None, None)], "a"), [(0, 7, 1, 7, 0, 1)])

    def test_amounts_that_stay(self):
        rows = ["on move", "add 1 old sum new", "add 1 new sum new"]
        self.assertEqual(self.sums(rows, [COME, ("move", None, "b")], "a", "b"), [(0, 0), (7, 7)])

    def test_places(self):
        rows = ["on move", "add 1 one sum old", "add 1 one sum new", "add 1 one sum noted"]
        self.assertEqual(self.sums(rows, [COME, ("move", None, "b")], "a", "b"), [(1, 0, 0), (0, 1, 0)])
        self.assertEqual(self.sums(rows, [COME, ("move", None, "a")], "a", "b"), [(1, 1, 0), (0, 0, 0)])
        rows += ["on come", "mark new"]
        self.assertEqual(self.sums(rows, [COME, ("move", None, "b"), ("move", None, "c")], "a", "b", "c"),
                         [(1, 0, 2), (1, 1, 0), (0, 1, 0)])

    def test_each_what_at_each_place(self):
        deeds = [("late", 11, "b"), ("both", 7, "a"), ("both", 30, "c")]
        for what, told in (("old", 7), ("new", 30), ("one", 1), ("n", 11), ("m", 0)):
            for place, group in (("old", "a"), ("new", "c"), ("noted", "b")):
                life = after(["on late", "mark new", "put n new", "on both", "if old below 10",
                              f"add 5 {what} sum {place}", "end"], deeds)
                for other in ("a", "b", "c", "d"):
                    self.assertEqual(life.sums(other), (told if other == group else 0,))
                    self.assertEqual(life.kept("sum", other), 5 * told if other == group else 0)
                    self.assertEqual(life.kept("many", other), 0)

    def test_nothing_is_added_where_none_is_noted(self):
        for rows in (["on come", "add 5 one sum noted"], ["on come", "mark new", "mark none", "add 5 one sum noted"]):
            life = after(rows, [COME])
            self.assertEqual((life.sums("a"), life.kept("sum", "a")), ((0,), 0))

    def test_notes(self):
        rows = ["on come", "put n new", "add 1 n sum new", "put n one", "add 1 n sum new", "put m n", "put n old",
                "add 1 n sum new", "on set", "put n old", "put m new", "put n m", "add 1 n sum new"]
        life = after(rows, [COME])
        self.assertEqual((life.notes, life.sums("a")), ((0, 1), (7, 1, 0, 0)))
        life = after(rows, [COME, ("set", 9, None)])
        self.assertEqual((life.notes, life.sums("a")), ((9, 9), (7, 1, 0, 9)))
        self.assertEqual(after(rows, [COME, ("set", 9, None), ("set", 2, None), ("move", None, "b")]).notes, (2, 2))

    def test_as_many_notes_as_the_book_has(self):
        for notes in ([], ["n"], ["n", "m", "k"]):
            book = Book(["open"], [], ["sum", "many"], notes, [], [Event("come", ["none"], "open", True, True),
                                                                    Event("go", ["open"], "none")], [])
            for deeds in ([], [COME], [COME, ("go", None, None)]):
                self.assertEqual(run_life(book, deeds).notes, (0,) * len(notes))

    def test_notes_in_their_order(self):
        self.assertEqual(after(["on come", "put m new"], [COME]).notes, (0, 7))
        self.assertEqual(after(["on come", "put n new"], [COME]).notes, (7, 0))

    def test_marks(self):
        for row, noted in (("mark old", "a"), ("mark new", "b"), ("mark none", None), ("put n one", "c")):
            rows = ["on come", "mark new", "on move", "if not noted", row, "end"]
            life = after(rows, [("come", 1, "c"), ("both", 2, "a"), ("move", None, "b")])
            self.assertEqual(life.noted, noted)
        self.assertEqual(after(["on come", "mark old"], [COME]).noted, "a")
        self.assertEqual(after(["on come", "mark new", "on go", "mark old"], [COME, ("go", None, None)]).noted, None)

    def test_marks_count_at_once(self):
        rows = ["on move", "add 1 one sum noted", "mark old", "add 1 one sum noted", "mark new", "add 1 one sum noted",
                "mark none", "add 1 one sum noted"]
        self.assertEqual(self.sums(rows, [COME, ("move", None, "b")], "a", "b"), [(0, 1, 0, 0), (0, 0, 1, 0)])

    def test_an_event_without_a_handler(self):
        life = after(["on go", "add 1 one sum old"], [COME, ("set", 1, None), ("move", None, "b")])
        self.assertEqual((life.sums("a"), life.sums("b"), life.amount, life.group), ((0,), (0,), 1, "b"))

    def holds(self, test, deeds, *before):
        """How often a test holds and does not hold in the last deed."""
        name = deeds[-1][0]
        rows = [*before, f"on {name}", f"if {test}", "add 1 one sum new", "else", "add 1 one many new", "end"]
        rows += [f"if not {test}", "add 1 one many new", "else", "add 1 one sum new", "end"]
        life = after(rows, deeds)
        held = life.sums(life.groups[0] if life.group is None else deeds[-1][2] or life.group)
        self.assertEqual(held[:2], held[:1:-1])
        return held[:2]

    def assert_holds(self, test, *arguments):
        self.assertEqual(self.holds(test, *arguments), (1, 0))
        self.assertEqual(self.holds("not not " + test, *arguments), (1, 0))

    def assert_holds_not(self, test, *arguments):
        self.assertEqual(self.holds(test, *arguments), (0, 1))
        self.assertEqual(self.holds("not not not " + test, *arguments), (1, 0))

    def test_was(self):
        self.assert_holds("was none", [COME])
        self.assert_holds_not("was open", [COME])
        self.assert_holds("was open", [COME, ("set", 1, None)])
        self.assert_holds_not("was paid", [COME, ("set", 1, None)])
        self.assert_holds_not("was none", [COME, ("set", 1, None)])
        self.assert_holds("was way", [("late", 1, "a"), ("go", None, None)])

    def test_below(self):
        deeds = [("come", 5, "a"), ("set", 100, None)]
        for number in (-1, 5, 6, 100, 101):
            for word, amount in (("old", 5), ("new", 100)):
                check = self.assert_holds if amount < number else self.assert_holds_not
                check(f"{word} below {number}", deeds)
        self.assert_holds("old below 1", [COME])
        self.assert_holds_not("old below 0", [COME])
        self.assert_holds("new below 8", [COME])
        self.assert_holds("old below 8", [COME, ("move", None, "b")])
        self.assert_holds_not("new below 7", [COME, ("move", None, "b")])
        self.assert_holds("new below 1", [COME, ("go", None, None)])
        self.assert_holds_not("new below 0", [COME, ("go", None, None)])
        self.assert_holds_not("old below 7", [COME, ("go", None, None)])

    def test_moved(self):
        self.assert_holds("moved", [COME, ("move", None, "b")])
        self.assert_holds_not("moved", [COME, ("move", None, "a")])
        self.assert_holds_not("moved", [COME])
        self.assert_holds_not("moved", [COME, ("set", 1, None)])
        self.assert_holds_not("moved", [COME, ("go", None, None)])
        self.assert_holds_not("moved", [COME, ("go", None, None), ("come", 7, "b")])
        self.assert_holds("moved", [COME, ("both", 7, "b")])

    def test_noted(self):
        self.assert_holds_not("noted", [COME, ("move", None, "b")])
        marked = ("on come", "mark new")
        self.assert_holds("noted", [COME, ("set", 1, None)], *marked)
        self.assert_holds("noted", [COME, ("move", None, "a")], *marked)
        self.assert_holds_not("noted", [COME, ("move", None, "b")], *marked)
        self.assert_holds("noted", [COME, ("go", None, None)], *marked)
        self.assert_holds("noted", [COME, ("both", 1, "b"), ("move", None, "a")], *marked)
        self.assert_holds_not("noted", [COME])

    def test_noted_as_it_is_then(self):
        rows = ["on move", "if noted", "add 1 one sum old", "end", "mark new", "if noted", "add 1 one sum old", "end",
                "mark old",
                "if noted", "add 1 one sum old", "end", "mark none", "if not noted", "add 1 one sum old", "end"]
        self.assertEqual(self.sums(rows, [COME, ("move", None, "b")], "a", "b"), [(0, 1, 0, 1), (0, 0, 0, 0)])
        self.assertEqual(self.sums(rows, [COME, ("move", None, "a")], "a", "b"), [(0, 1, 1, 1), (0, 0, 0, 0)])

    def test_blocks(self):
        rows = ["on set", "if old below 10", "add 1 one sum new", "if new below 10", "add 1 one sum new", "else",
                "add 1 one sum new", "if moved", "add 1 one sum new", "end", "end", "add 1 one sum new", "else",
                "add 1 one sum new", "if new below 10", "add 1 one sum new", "end", "end", "add 1 one sum new"]
        told = {(5, 5): (1, 1, 0, 0, 1, 0, 0, 1), (5, 15): (1, 0, 1, 0, 1, 0, 0, 1), (15, 5): (0, 0, 0, 0, 0, 1, 1, 1),
                (15, 15): (0, 0, 0, 0, 0, 1, 0, 1)}
        for (first, second), sums in told.items():
            self.assertEqual(self.sums(rows, [("come", first, "a"), ("set", second, None)], "a"), [sums])

    def test_a_test_is_done_once(self):
        rows = ["on move", "mark new", "if noted", "mark none", "else", "mark old", "end"]
        self.assertEqual(after(rows, [COME, ("move", None, "b")]).noted, None)

    def test_numbers_of_statements_go_through_the_book(self):
        rows = ["on go", "add 1 one sum old", "add 2 one sum old", "on come", "if was open", "add 3 one sum new", "end",
                "add 4 one many new", "on set", "add 5 one sum old"]
        life = after(rows, [COME, ("set", 1, None), ("set", 2, None)])
        self.assertEqual(life.sums("a"), (0, 0, 0, 1, 2))
        self.assertEqual((life.kept("sum", "a"), life.kept("many", "a")), (10, 4))
        life = after(rows, [COME, ("go", None, None)])
        self.assertEqual((life.sums("a"), life.kept("sum", "a"), life.kept("many", "a")), ((1, 1, 0, 1, 0), 3, 4))


class Sums(unittest.TestCase):
    """[25]: kept, worth and off."""

    ROWS = ["on come", "add 2 new sum new", "add -3 one many new", "on move", "add 5 old sum old", "on set",
            "add 0 one sum new"]

    def test_kept(self):
        life = after(self.ROWS, [COME, ("move", None, "b"), ("move", None, "a"), ("set", 1, None)])
        self.assertEqual((life.sums("a"), life.sums("b")), ((7, 1, 7, 1), (0, 0, 7, 0)))
        self.assertEqual([life.kept("sum", group) for group in ("a", "b", "c")], [49, 35, 0])
        self.assertEqual([life.kept("many", group) for group in ("a", "b", "c")], [-3, 0, 0])

    def test_worth(self):
        life = after(self.ROWS, [COME, ("move", None, "b")])
        self.assertEqual([life.worth("sum", group) for group in ("a", "b", "c")], [0, 7, 0])
        self.assertEqual([life.worth("many", group) for group in ("a", "b", "c")], [0, 0, 0])
        for amount, worth in ((9, 18), (10, 0), (-3, -6)):
            life = after(self.ROWS, [COME, ("set", amount, None)])
            self.assertEqual((life.worth("sum", "a"), life.worth("many", "a"), life.worth("many", "b")), (worth, 1, 0))

    def test_worth_on_the_way_and_gone(self):
        for deeds in ([("late", 5, "a")], [COME, ("both", 5, "a")], [COME, ("go", None, None)], []):
            life = after(self.ROWS, deeds)
            self.assertEqual([life.worth(total, group) for total in ("sum", "many") for group in ("a", "b")], [0] * 4)

    def test_off(self):
        life = after(self.ROWS, [COME, ("move", None, "b")])
        self.assertEqual([life.off("sum", group) for group in ("a", "b", "c")], [49, -7, 0])
        self.assertEqual([life.off("many", group) for group in ("a", "b", "c")], [-3, 0, 0])

    def test_groups_that_were_never_brought(self):
        life = after(self.ROWS, [COME])
        for group in ("b", "aa", "zzzz"):
            self.assertEqual((life.sums(group), life.kept("sum", group), life.off("many", group)), ((0, 0, 0, 0), 0, 0))

    def test_no_total(self):
        for life in (after(self.ROWS, [COME]), after(self.ROWS, [])):
            for ask in (life.kept, life.worth, life.off):
                for name in [*NO_NAMES, "n", "open", "all", "sums", ["sum"]]:
                    for group in ("a", "b"):
                        self.assertEqual(raised(ask, name, group), ("NoTotal", name))

    def test_arguments_by_name(self):
        life = after(self.ROWS, [COME])
        self.assertEqual((life.sums(group="a"), life.kept(group="a", total="sum"), life.worth(group="a", total="sum"),
                          life.off(group="a", total="sum")), ((7, 1, 0, 0), 14, 7, 7))

    def test_a_limit_is_crossed_either_way(self):
        book = Book(["open"], [], ["sum"], ["n"], [Worth("sum", "open", 1, "amount", 0)],
                    [Event("come", ["none"], "open", True, True), Event("set", ["open"], "open", True)],
                    [Handler("come", [If(NewBelow(0), [], [Add(1, "new", "sum", "new")])]),
                     Handler("set", [If(Not(OldBelow(0)), [Add(-1, "old", "sum", "old")]),
                                     If(Not(NewBelow(0)), [Add(1, "new", "sum", "new")]), Put("n", "new"),
                                     Mark("new")])])
        for amounts in itertools.product((-5, -1, 0, 1, 8), repeat=3):
            life = run_life(book, [("come", amounts[0], "a"), *[("set", amount, None) for amount in amounts[1:]]])
            self.assertEqual((life.off("sum", "a"), life.off("sum", "b"), life.notes, life.noted),
                             (0, 0, amounts[2:], "a"))


class Equal(unittest.TestCase):
    """[25]: equality of lives."""

    ROWS = ["on come", "add 1 new sum new", "on move", "add 1 old sum new"]

    def test_equal(self):
        self.assertIs(after(self.ROWS, [COME]) == after(self.ROWS, (COME,)), True)
        self.assertIs(after(self.ROWS, [COME]) != after(self.ROWS, [COME]), False)
        self.assertIs(after([], []) == after([], ()), True)
        # Other deeds, but as many, and all that is told is the same.
        rows = ["on come", "add 1 one sum new"]
        self.assertIs(after(rows, [COME, ("set", 9, None)]) == after(rows, [("come", 5, "a"), ("set", 9, None)]), True)

    def test_numbers_of_deeds(self):
        for deeds in ([COME], [COME, ("move", None, "a")]):
            more = [*deeds, ("move", None, "a")]
            self.assertIs(after([], deeds) == after([], more), False)
            self.assertIs(after([], more) == after([], [*more, ("move", None, "a")]), False)

    def test_states_and_groups(self):
        deeds = [[COME], [("come", 8, "a")], [("come", 7, "b")], [("late", 7, "a")], [COME, ("move", None, "b")],
                 [COME, ("move", None, "a")], [("come", 7, "c"), ("move", None, "a")], [COME, ("both", 7, "a")], []]
        lives = [after([], told) for told in deeds]
        for (at, p), (other, q) in itertools.product(enumerate(lives), repeat=2):
            self.assertIs(p == q, at == other)
            self.assertIs(p != q, at != other)
        # Only the group is another one: both were brought, but which one is the last?
        p, q = ([("come", 7, one), ("move", None, two)] for one, two in ("ab", "ba"))
        self.assertIs(after([], p) == after([], q), False)

    def test_notes_and_noted_groups(self):
        deeds = [COME, ("move", None, "b")]
        rows = [["on come", "mark new"], ["on move", "mark new"], ["on come", "put n one"], ["on come", "put m one"],
                []]
        for (at, p), (other, q) in itertools.product(enumerate(rows), repeat=2):
            self.assertIs(after(p, deeds) == after(q, deeds), at == other)

    def test_sums(self):
        rows = [["on come", "add 1 one sum new", "add 1 one sum new"],
                ["on come", "add 1 one sum new", "add 1 new sum new"],
                ["on come", "add 1 one sum new", "on set", "add 1 one sum new"], ["on come", "add 1 one sum new"],
                [], ["on move", "add 1 old sum old", "add 1 old sum old"],
                ["on move", "add 1 one sum old", "add 1 one sum new"]]
        deeds = [COME, ("move", None, "b")]
        for (at, p), (other, q) in itertools.product(enumerate(rows), repeat=2):
            self.assertIs(after(p, deeds) == after(q, deeds), at == other)

    def test_unlike_books(self):
        # What is told of the lives is the same: neither the factors nor the totals nor the worths are among it.
        p = after(["on come", "add 1 one sum new"], [COME])
        q = after(["on come", "add 2 one many new", "on go", "mark old"], [COME])
        self.assertIs(p == q, True)
        # There are two statements and one, though none of them was done.
        p = run_life(book_of("on go", "add 1 one sum new"), [])
        q = run_life(book_of("on go", "add 1 one sum new", "add 1 one sum new"), [])
        self.assertIs(p == q, False)
        self.assertIs(p != q, True)
        self.assertIs(p == run_life(book_of("on set", "add 9 one sum new"), []), True)

    def test_with_nothing_else(self):
        life = after(self.ROWS, [COME])
        for other in [None, 0, "open", (), vars(life), *[x for x in package_objects() if not isinstance(x, Life)]]:
            self.assertIs(life == other, False)
            self.assertIs(other == life, False)


class Histories(unittest.TestCase):
    """[26]: lives add up."""

    def test_a_record_that_comes_again_is_a_new_one(self):
        rows = ["on come", "put n new", "mark new", "add 1 n sum noted", "on set", "if noted", "add 2 n sum new", "end",
                "put n old", "on move", "add 1 n many noted", "add 1 new sum new", "on go", "add -1 old sum old",
                "add 1 n many noted"]
        first = [COME, ("set", 3, None), ("move", None, "b"), ("go", None, None)]
        second = [("come", 20, "b"), ("move", None, "a"), ("set", -2, None), ("set", 5, None)]
        p, q, both = after(rows, first), after(rows, second), after(rows, first + second)
        for group in ("a", "b", "c"):
            self.assertEqual(both.sums(group), tuple(x + y for x, y in zip(p.sums(group), q.sums(group))))
            for total in ("sum", "many"):
                self.assertEqual(both.kept(total, group), p.kept(total, group) + q.kept(total, group))
                self.assertEqual(both.off(total, group), p.off(total, group) + q.off(total, group))
        self.assertEqual((both.kind, both.amount, both.group, both.notes, both.noted),
                         (q.kind, q.amount, q.group, q.notes, q.noted))

    def test_one_record_does_not_touch_another_one(self):
        book = book_of("on come", "put n new", "add 1 n sum new", "mark new", "on move", "add 1 n many noted")
        deeds = [COME, ("move", None, "b")]
        before = whole(run_life(book, deeds))
        for other in ([("come", 5, "b")], [("come", 1, "c"), ("go", None, None)], deeds):
            run_life(book, other)
            self.assertEqual(whole(run_life(book, deeds)), before)

    def test_a_right_book(self):
        book = Book.read(PLAIN)
        chance = random.Random(26)
        for _ in range(50):
            lives = [run_life(book, chosen_deeds(book, chance, 6)) for _ in range(3)]
            for group in ("a", "b", "c"):
                kept = sum(life.kept("sum", group) for life in lives)
                self.assertEqual(kept, sum(life.amount for life in lives if life.group == group))
                self.assertEqual([life.off("sum", group) for life in lives], [0, 0, 0])


def chosen_deeds(book, chance, many):
    """Some deeds of a life."""
    kind, deeds = "none", []
    for _ in range(many):
        event = chance.choice([event for event in book.events if kind in event.origins])
        amount = chance.choice((-7, 0, 1, 2, 5, 10 ** 9)) if event.amount else None
        deeds.append((event.name, amount, chance.choice("abc") if event.group else None))
        kind = event.kind
    return deeds


def chosen_rows(chance, depth):
    """Some rows of a handler."""
    rows = []
    for _ in range(chance.randrange(4)):
        what = [chance.choice(["old", "new", "one", "n", "m"]) for _ in range(2)]
        rows.append(chance.choice([
            Add(chance.randrange(-3, 4), what[0], chance.choice(["sum", "many"]),
                chance.choice(["old", "new", "noted"])),
            Put(chance.choice("nm"), what[1]), Mark(chance.choice(["old", "new", "new", "none"]))]))
        if depth and chance.randrange(2):
            test = chance.choice([Was("open"), Was("none"), Was("way"), OldBelow(2), OldBelow(1), NewBelow(2),
                                  NewBelow(5),
                                  Moved(), Noted(), Noted()])
            for _ in range(chance.randrange(3)):
                test = Not(test)
            rows.append(If(test, chosen_rows(chance, depth - 1), chosen_rows(chance, depth - 1)))
    return rows


class Chosen(unittest.TestCase):
    """[23], [25]: lives of many books, against the second reading of the document."""

    def test_many_lives(self):
        chance = random.Random(23)
        head = Book.read(HEAD)
        for _ in range(300):
            names = chance.sample([event.name for event in head.events], 6)
            book = Book(head.rests, head.passes, head.totals, head.notes, head.worths, head.events,
                        [Handler(name, chosen_rows(chance, 3)) for name in names])
            for _ in range(5):
                deeds = chosen_deeds(book, chance, chance.randrange(12))
                life, told = run_life(book, deeds), lived(str(book), deeds)
                with self.subTest(book=str(book), deeds=deeds):
                    self.assertEqual((life.kind, life.amount, life.group, life.notes, life.noted), told[:5])
                    for group in ("a", "b", "c", "d"):
                        sums = told[5].get(group, (0,) * len(book))
                        self.assertEqual(life.sums(group), sums)
                        for total in ("sum", "many"):
                            kept = sum(row.factor * sums[at] for at, row in enumerate(book.statements)
                                       if row.total == total)
                            worth = book.worth(total, told[0], told[1]) if told[2] == group else 0
                            self.assertEqual(life.kept(total, group), kept)
                            self.assertEqual(life.worth(total, group), worth)
                            self.assertEqual(life.off(total, group), kept - worth)


if __name__ == "__main__":
    unittest.main()
