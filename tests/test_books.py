"""[18], [19], [20]: books."""

import itertools
import unittest

from sumlives.books import Book
from sumlives.parts import Event, Handler, Worth
from sumlives.rows import Add, If, Mark, Moved, NewBelow, Not, Noted, OldBelow, Put, Was
from tests.helpers import NO_INTEGERS, NO_NAMES, PLAIN, assert_wrong_arguments, package_objects, raised

COME = Event("come", ["none"], "open", True, True)
SET = Event("set", ["open", "way"], "paid", True)
GO = Event("go", ["paid", "open"], "none")
WORTHS = [Worth("sum", "open", 1, "amount"), Worth("many", "paid", 2, "one", 0, 10)]
ONE = Add(1, "one", "sum", "new")


def make(rests=("open", "paid"), passes=("way",), totals=("sum", "many"), notes=("n", "m"), worths=WORTHS,
         events=(COME, SET, GO), handlers=(Handler("come", [ONE]),)):
    """A book, made of these parts."""
    return Book(rests, passes, totals, notes, worths, events, handlers)


def with_rows(*rows):
    """A book with one handler of these rows."""
    return make(handlers=[Handler("come", rows)])


def nested(row):
    """The row by itself, in a block, among the others of one, and three deep."""
    return [row, If(Moved(), [row]), If(Moved(), [], [row]),
            If(Noted(), [ONE], [If(Moved(), [ONE, If(Noted(), [row])])]),
            If(Noted(), [If(Moved(), [], [If(Noted(), [ONE], [ONE, row])])])]


class Parts(unittest.TestCase):
    """[18]: the attributes of books."""

    def test_attributes_are_tuples_in_the_order_passed(self):
        handlers = [Handler("set", [ONE]), Handler("come")]
        given = [["paid", "open"], ["way", "b", "a"], ["sum", "many"], ["n", "m"], WORTHS[::-1], [SET, GO, COME],
                 handlers]
        for parts in (given, [tuple(part) for part in given]):
            book = Book(*parts)
            shown = [book.rests, book.passes, book.totals, book.notes, book.worths, book.events, book.handlers]
            self.assertEqual(shown, [tuple(part) for part in given])
            self.assertEqual({type(part) for part in shown}, {tuple})

    def test_parts_that_may_be_empty(self):
        for empty in ([], ()):
            book = Book(["a"], empty, ["s"], empty, empty, [Event("come", ["none"], "a", True, True)], empty)
            self.assertEqual((book.passes, book.notes, book.worths, book.handlers), ((), (), (), ()))
            self.assertEqual((len(book), book.factors, book.cuts, book.statements), (0, (), (), ()))

    def test_lists_that_change_afterwards(self):
        given = [["paid", "open"], ["way"], ["sum", "many"], ["n", "m"], list(WORTHS), [COME, SET, GO],
                 [Handler("come", [ONE])]]
        book = Book(*given)
        text = str(book)
        for part in given:
            part.clear()
        self.assertEqual(str(book), text)
        self.assertEqual((len(book), book.rests, book.worths), (1, ("paid", "open"), tuple(WORTHS)))

    def test_arguments_by_name(self):
        book = Book(handlers=[Handler("come", [ONE])], events=[COME, SET, GO], worths=WORTHS, notes=["n", "m"],
                    totals=["sum", "many"], passes=["way"], rests=["open", "paid"])
        self.assertEqual(book, make())
        self.assertEqual(Book.read(text=str(book)), book)
        self.assertEqual(book.worth(amount=3, kind="open", total="sum"), 3)
        self.assertEqual(book.with_factors(factors=[4]).factors, (4,))
        self.assertEqual(book.barring(names=["go"]).events, (COME, SET))

    def test_a_name_may_mean_several_things(self):
        event = Event("x", ["none"], "x", True, True)
        book = Book(["x"], [], ["x"], ["x"], [Worth("x", "x", 1, "one")], [event],
                    [Handler("x", [Add(1, "x", "x", "new")])])
        self.assertEqual(str(book), "rest x\ntotal x\nnote x\nworth x x 1 one\nevent x none to x amount group\n"
                                    "on x\nadd 1 x x new")
        self.assertEqual(Book.read(str(book)), book)

    def test_no_object_is_iterable(self):
        for use in (iter, list, tuple, sorted, lambda book: ONE in book, lambda book: [*book]):
            with self.assertRaises(TypeError):
                use(make())


class Wrong(unittest.TestCase):
    """[18]: InvalidBook with the first word that is wrong."""

    def test_wrong_arguments(self):
        names = self.sequences_without(()) + [["a", "a"], ("a", "b", "a")]
        names += [[value] for value in NO_NAMES] + [("open", value) for value in NO_NAMES]
        worths = self.sequences_without(Worth) + [
            [WORTHS[0], COME], [WORTHS], [Worth("n", "open", 1, "one")], [*WORTHS, "worth"]]
        events = self.sequences_without(Event) + [[], (), [COME, COME], [COME, ONE], [COME, [SET]]]
        handlers = self.sequences_without(Handler) + [[ONE], [Handler("come"), None], [[Handler("come")]]]
        assert_wrong_arguments(self, Book, [
            (["open", "paid"], names + [[], ()], "rests"),
            (["way"], names + [["way", "open"], ("paid",)], "passes"),
            (["sum", "many"], names + [[], ()], "totals"),
            (["n"], names, "notes"),
            (WORTHS, worths, "worths"),
            ([COME, SET, GO], events, "events"),
            ([Handler("come", [ONE])], handlers, "handlers"),
        ], "InvalidBook")

    def sequences_without(self, kind):
        """Values that are no sequences of objects of this class."""
        objects = package_objects()
        return [None, True, 0, 1, "", "a", "open", [None], [1], ["open", True], [["open"]], [("open",)],
                (("open", "paid"),), *objects, *[[value] for value in objects if not isinstance(value, kind)]]

    def test_rests_and_passes(self):
        self.assertEqual(raised(make, ()), ("InvalidBook", "rests"))
        self.assertEqual(raised(make, ("open", "paid", "open")), ("InvalidBook", "rests"))
        self.assertEqual(raised(make, ("open", "paid"), ("way", "way")), ("InvalidBook", "passes"))
        self.assertEqual(raised(make, ("open", "paid"), ("way", "paid")), ("InvalidBook", "passes"))
        self.assertEqual(raised(make, ["open", "paid"], ["open"]), ("InvalidBook", "passes"))

    def test_worths(self):
        for worth in (Worth("all", "open", 1, "one"), Worth("sum", "way", 1, "one"), Worth("sum", "kind", 1, "one"),
                      Worth("n", "open", 1, "one"), Worth("sum", "sum", 1, "one")):
            self.assertEqual(raised(lambda: make(worths=[worth])), ("InvalidBook", "worths"))
            self.assertEqual(raised(lambda: make(worths=[*WORTHS, worth])), ("InvalidBook", "worths"))
        self.assertEqual(make(worths=WORTHS * 2).worths, tuple(WORTHS * 2))

    def test_events(self):
        wrong = [[COME, SET, Event("come", ["open"], "open")], [COME, COME], [Event("x", ["none"], "kind", True, True)],
                 [COME, Event("x", ["open", "kind"], "open")], [COME, Event("x", ["kind"], "none")],
                 [COME, Event("x", ["sum"], "none")], [COME, Event("x", ["open"], "n")]]
        for events in wrong:
            self.assertEqual(raised(lambda: make(events=events)), ("InvalidBook", "events"))
        self.assertIsNone(raised(lambda: make(events=[COME, Event("x", ["way"], "way"), GO])))

    def test_handlers(self):
        for handlers in ([Handler("come"), Handler("come")], [Handler("come"), Handler("set"), Handler("come", [ONE])],
                         [Handler("x")], [Handler("come"), Handler("open")]):
            self.assertEqual(raised(lambda: make(handlers=handlers)), ("InvalidBook", "handlers"))
        self.assertIsNone(raised(lambda: make(handlers=[Handler("go"), Handler("come"), Handler("set")])))

    def test_rows_tell_what_there_is(self):
        wrong = [Add(1, "one", "all", "new"), Add(1, "one", "n", "new"), Add(1, "sum", "sum", "new"),
                 Add(1, "x", "sum", "new"), Put("x", "old"), Put("sum", "old"), Put("n", "x"), Put("n", "many"),
                 If(Was("x"), []), If(Was("sum"), []), If(Not(Was("x")), []), If(Not(Not(Not(Was("x")))), [])]
        right = [Add(1, "n", "many", "noted"), Add(1, "one", "sum", "old"), Put("m", "n"), Put("n", "new"), Mark("old"),
                 If(Was("none"), []), If(Was("way"), []), If(Not(Not(Was("paid"))), []), If(Not(Was("none")), []),
                 If(Noted(), []), If(OldBelow(7), []), If(Not(NewBelow(7)), [])]
        for rows in itertools.chain(*[nested(row) for row in wrong]):
            for handlers in ([Handler("come", [rows])], [Handler("come", [ONE, rows, ONE])],
                             [Handler("set", [ONE]), Handler("go", [rows])]):
                self.assertEqual(raised(lambda: make(handlers=handlers)), ("InvalidBook", "handlers"), str(rows))
        for rows in itertools.chain(*[nested(row) for row in right]):
            self.assertIsNone(raised(lambda: make(handlers=[Handler("come", [rows])])), str(rows))

    def test_what_hangs_on_what_is_missing(self):
        self.assertEqual(raised(lambda: make(rests=["paid"])), ("InvalidBook", "worths"))
        self.assertEqual(raised(lambda: make(rests=["paid"], worths=[])), ("InvalidBook", "events"))
        self.assertEqual(raised(lambda: make(passes=[])), ("InvalidBook", "events"))
        self.assertEqual(raised(lambda: make(totals=["many"], worths=[])), ("InvalidBook", "handlers"))
        self.assertEqual(raised(lambda: make(events=[SET, GO])), ("InvalidBook", "handlers"))


class Amounts(unittest.TestCase):
    """[19]: cuts, classes of amounts, and what a record is worth."""

    def test_no_cuts(self):
        self.assertEqual(make(worths=[]).cuts, ())
        self.assertEqual(with_rows(If(Was("open"), [If(Moved(), [Add(5, "one", "sum", "old")])])).cuts, (0, 10))

    def test_cuts_of_worths(self):
        worths = [Worth("sum", "open", 7, "one", 5), Worth("sum", "paid", 7, "one", None, -3),
                  Worth("many", "open", 7, "one", -3, 5), Worth("many", "open", 9, "one", 0, 100),
                  Worth("sum", "open", 3, "one")]
        self.assertEqual(make(worths=worths).cuts, (-3, 0, 5, 100))
        self.assertIs(type(make(worths=worths).cuts), tuple)

    def test_cuts_of_tests(self):
        for test in (OldBelow(4), NewBelow(4), Not(OldBelow(4)), Not(Not(NewBelow(4)))):
            for row in nested(If(test, [])):
                self.assertEqual(make(worths=[], handlers=[Handler("go", [ONE, row])]).cuts, (4,), str(row))

    def test_each_cut_once_and_ascending(self):
        rows = [If(OldBelow(30), [If(NewBelow(-7), [], [If(Not(OldBelow(2)), [])])]), If(NewBelow(30), [])]
        book = make(worths=[Worth("sum", "open", 1, "one", 2, 30)],
                    handlers=[Handler("come", rows), Handler("set", [If(OldBelow(-7), [], [If(NewBelow(9), [])])])])
        self.assertEqual(book.cuts, (-7, 2, 9, 30))

    def test_worth(self):
        worths = [Worth("sum", "open", 2, "amount", None, -5), Worth("sum", "open", 7, "one", -5, 10),
                  Worth("sum", "open", -1, "amount", 20), Worth("sum", "paid", 4, "one"),
                  Worth("many", "open", 1, "one")]
        book = make(worths=worths)
        told = {-100: -200, -6: -12, -5: 7, 0: 7, 9: 7, 10: 0, 19: 0, 20: -20, 21: -21, 10 ** 9: -10 ** 9}
        for amount, worth in told.items():
            self.assertEqual(book.worth("sum", "open", amount), worth)
            self.assertEqual(book.worth("sum", "paid", amount), 4)
            self.assertEqual(book.worth("many", "open", amount), 1)
            for total, kind in (("sum", "way"), ("sum", "x"), ("many", "paid"), ("many", "sum"), ("sum", "none")):
                self.assertEqual(book.worth(total, kind, amount), 0)

    def test_the_first_that_fits_counts(self):
        worths = [Worth("sum", "open", 1, "one", 0, 10), Worth("sum", "paid", 9, "one"),
                  Worth("sum", "open", 2, "one", 5, 15),
                  Worth("sum", "open", 3, "one"), Worth("sum", "open", 4, "one", 100)]
        book = make(worths=worths)
        self.assertEqual([book.worth("sum", "open", amount) for amount in (-1, 0, 4, 5, 9, 10, 14, 15, 100)],
                         [3, 1, 1, 1, 1, 2, 2, 3, 3])

    def test_amounts_of_one_class_are_worth_the_same_way(self):
        worths = [Worth("sum", "open", 1, "one", 3, 8), Worth("sum", "open", 2, "one", 8),
                  Worth("sum", "open", 5, "one", None, 0)]
        book = make(worths=worths)
        self.assertEqual(book.cuts, (0, 3, 8))
        classes = [range(-9, 0), range(0, 3), range(3, 8), range(8, 20)]
        for amounts, worth in zip(classes, (5, 0, 1, 2)):
            self.assertEqual({book.worth("sum", "open", amount) for amount in amounts}, {worth})

    def test_no_total(self):
        book = make()
        for name in [*NO_NAMES, "n", "open", "come", "all", "sums"]:
            for kind in ("open", "x"):
                with self.subTest(name=name):
                    self.assertEqual(raised(book.worth, name, kind, 1), ("NoTotal", name))


class Statements(unittest.TestCase):
    """[20]: statements and their factors."""

    def setUp(self):
        self.rows = [Add(at, "one", "sum", "new") for at in range(8)]
        a, b, c, d, e, f, g, h = self.rows
        inner = If(Noted(), [c, Mark("old"), If(Moved(), [], [d])], [e])
        self.book = make(handlers=[Handler("set", [a, If(Moved(), [b, inner], [f]), Put("n", "old")]), Handler("go"),
                                   Handler("come", [If(Was("none"), [], [g]), h])])

    def test_numbers(self):
        self.assertEqual(len(self.book), 8)
        for at, row in enumerate(self.rows):
            self.assertEqual(self.book[at], row)
            self.assertIs(self.book[at], row)

    def test_no_statement(self):
        for at in (8, 9, -1, -8, 10 ** 20):
            self.assertEqual(raised(lambda: self.book[at]), ("NoStatement", at))
        empty = make(handlers=[])
        self.assertEqual(len(empty), 0)
        for at in (0, -1, 1):
            self.assertEqual(raised(lambda: empty[at]), ("NoStatement", at))

    def test_factors(self):
        self.assertEqual(self.book.factors, tuple(range(8)))
        self.assertIs(type(self.book.factors), tuple)
        self.assertEqual(with_rows(ONE, If(Moved(), [Add(-5, "n", "many", "noted")]), ONE).factors, (1, -5, 1))

    def test_other_factors(self):
        text = str(self.book)
        for factors in ([7, 6, 5, 4, 3, 2, 1, -10 ** 9], (0,) * 8):
            other = self.book.with_factors(factors)
            self.assertEqual(other.factors, tuple(factors))
            self.assertEqual([(row.what, row.total, row.place) for row in other.statements],
                             [("one", "sum", "new")] * 8)
            self.assertEqual(other.with_factors(tuple(range(8))), self.book)
            self.assertEqual(str(self.book), text)
            self.assertEqual(self.book.factors, tuple(range(8)))
        self.assertEqual(str(self.book.with_factors(list(range(10, 18)))),
                         "\n".join([line.replace("add ", "add 1") for line in text.split("\n")]))

    def test_other_factors_keep_all_else(self):
        book = make(handlers=[Handler("go", [Put("n", "m"), Add(3, "n", "many", "noted"), Mark("none")])])
        self.assertEqual(str(book.with_factors([-4])), str(book).replace("add 3", "add -4"))
        empty = make(handlers=[Handler("go", [Mark("old")])])
        self.assertEqual((empty.with_factors([]), empty.with_factors(())), (empty, empty))

    def test_a_list_of_factors_stays_and_may_change_afterwards(self):
        factors = [5] * 8
        other = self.book.with_factors(factors)
        self.assertEqual(factors, [5] * 8)
        factors[0] = 6
        self.assertEqual((other.factors, other[0].factor), ((5,) * 8, 5))

    def test_wrong_factors(self):
        right = list(range(8))
        wrong = [None, True, 0, 8, "", "01234567", (), [], right[1:], [*right, 8], (*right, 8), [right],
                 (tuple(right),)]
        wrong += [[*right[:at], value, *right[at + 1:]] for value in NO_INTEGERS for at in (0, 7)]
        for value in wrong:
            with self.subTest(value=value):
                self.assertEqual(raised(self.book.with_factors, value), ("InvalidVector",))
        for value in (None, False, 0, "", [0], (0,), [()]):
            self.assertEqual(raised(make(handlers=[]).with_factors, value), ("InvalidVector",))


class Barring(unittest.TestCase):
    """[20]: books without some events."""

    def setUp(self):
        rows = [Handler("go", [If(OldBelow(50), [Add(3, "one", "sum", "old")])]),
                Handler("come", [ONE, Put("n", "new")])]
        self.book = make(handlers=rows)

    def test_none(self):
        for names in ([], ()):
            self.assertEqual(self.book.barring(names), self.book)

    def test_some(self):
        text = str(self.book)
        for names in (["go"], ("go",), ["go", "go"]):
            book = self.book.barring(names)
            self.assertEqual((book.events, book.handlers), ((COME, SET), (self.book.handlers[1],)))
            self.assertEqual((len(book), book.factors, book.cuts), (1, (1,), (0, 10)))
            self.assertEqual((book.rests, book.passes, book.totals, book.notes, book.worths),
                             (self.book.rests, self.book.passes, self.book.totals, self.book.notes, self.book.worths))
        book = self.book.barring(["set", "come"])
        self.assertEqual((book.events, book.handlers), ((GO,), (self.book.handlers[0],)))
        self.assertEqual((self.book.cuts, book.cuts), ((0, 10, 50), (0, 10, 50)))
        self.assertEqual(self.book.barring(["come", "go"]).handlers, ())
        self.assertEqual(str(self.book), text)

    def test_all(self):
        for names in (["come", "set", "go"], ("go", "set", "come", "set")):
            self.assertEqual(raised(self.book.barring, names), ("InvalidBook", "events"))

    def test_names_that_are_none(self):
        wrong = NO_NAMES + ["open", "sum", "n", "comes", "cume", [["come"]]]
        for name in wrong:
            for names in ([name], (name,), ["go", name], [name, "go", "x"], ["come", "set", "go", name],
                          [name, None, 1]):
                with self.subTest(names=names):
                    self.assertEqual(raised(self.book.barring, names), ("NoEvent", name))

    def test_a_list_of_names_stays(self):
        names = ["go", "set"]
        self.book.barring(names)
        self.assertEqual(names, ["go", "set"])


class Equal(unittest.TestCase):
    """[20]: equality by the text."""

    def test_equal(self):
        self.assertIs(make() == make(), True)
        self.assertIs(make() != make(), False)
        self.assertIs(make() == Book.read(str(make())), True)
        self.assertIs(make(["open", "paid"]) == make(("open", "paid")), True)

    def test_unlike(self):
        values = [make(), make(rests=["paid", "open"]), make(rests=["open", "paid", "x"]), make(passes=["way", "x"]),
                  make(totals=["many", "sum"]), make(notes=["m", "n"]), make(notes=[]), make(worths=WORTHS[::-1]),
                  make(worths=WORTHS[:1]), make(events=[SET, COME, GO]), make(events=[COME, SET]), make(handlers=[]),
                  make(handlers=[Handler("come")]), make(handlers=[Handler("come", [ONE, ONE])]),
                  make(handlers=[Handler("come", [ONE]), Handler("go")]), make().with_factors([2]),
                  make().barring(["set"])]
        for (at, p), (other, q) in itertools.product(enumerate(values), repeat=2):
            self.assertIs(p == q, at == other)
            self.assertIs(p != q, at != other)

    def test_with_nothing_else(self):
        for other in [str(make()), None, 0, (), *[x for x in package_objects() if not isinstance(x, Book)]]:
            self.assertIs(make() == other, False)
            self.assertIs(other == make(), False)

    def test_text(self):
        self.assertEqual(str(Book.read(PLAIN)), PLAIN)
        self.assertEqual(str(make()).split("\n"), [
            "rest open", "rest paid", "pass way", "total sum", "total many", "note n", "note m",
            "worth sum open 1 amount", "worth many paid 2 one from 0 below 10", "event come none to open amount group",
            "event set open way to paid amount", "event go paid open to none", "on come", "add 1 one sum new"])


if __name__ == "__main__":
    unittest.main()
