"""[12], [13], [14]: rows and tests."""

import unittest

from sumlives.rows import Add, If, Mark, Moved, NewBelow, Not, Noted, OldBelow, Put, Row, Test, Was
from tests.helpers import NO_INTEGERS, NO_NAMES, assert_wrong_arguments, but, package_objects, raised

ONE = Add(1, "one", "sum", "new")
ROWS = [ONE, Put("n", "old"), Mark("none"), If(Moved(), [ONE])]
TESTS = [Was("open"), OldBelow(1), NewBelow(1), Moved(), Noted(), Not(Moved())]


def wrong_rows():
    """Values that are no sequences of rows."""
    some = [None, True, 0, 1, "", "ab", "add 1 one sum new", ONE, Moved(), [None], [ONE, None], (ONE, "mark old"),
            [[ONE]], [(ONE,)], ([],), [ONE, ()], [Moved()], (ONE, Not(Moved())), [ONE, True], ["mark old"], [Row, ONE]]
    return some + package_objects() + [[value] for value in package_objects() if not isinstance(value, Row)]


def no_tests():
    """Values that are no tests."""
    return [None, True, 0, "moved", (), [], [Moved()], (Moved(),)] + [
        value for value in package_objects() if not isinstance(value, Test)]


class Texts(unittest.TestCase):
    """[12], [13], [14]: str."""

    def test_statements(self):
        self.assertEqual(str(Add(2, "old", "sum", "new")), "add 2 old sum new")
        self.assertEqual(str(Add(-1, "new", "s", "old")), "add -1 new s old")
        self.assertEqual(str(Add(0, "one", "abcd", "noted")), "add 0 one abcd noted")
        self.assertEqual(str(Add(123456789, "n", "many", "noted")), "add 123456789 n many noted")

    def test_other_rows(self):
        self.assertEqual(str(Put("n", "old")), "put n old")
        self.assertEqual(str(Put("memo", "new")), "put memo new")
        self.assertEqual(str(Put("n", "one")), "put n one")
        self.assertEqual(str(Put("n", "n")), "put n n")
        self.assertEqual([str(Mark(place)) for place in ("old", "new", "none")], ["mark old", "mark new", "mark none"])

    def test_tests(self):
        told = {"was open": Was("open"), "was none": Was("none"), "old below 100": OldBelow(100),
                "old below -3": OldBelow(-3), "new below 0": NewBelow(0), "new below -999999": NewBelow(-999999),
                "moved": Moved(), "noted": Noted(), "not moved": Not(Moved()), "not was paid": Not(Was("paid")),
                "not not old below 5": Not(Not(OldBelow(5)))}
        for text, test in told.items():
            self.assertEqual(str(test), text)

    def test_not_eight_deep_and_more(self):
        for depth in (8, 20):
            test = Noted()
            for _ in range(depth):
                test = Not(test)
            self.assertEqual(str(test), "not " * depth + "noted")

    def test_blocks(self):
        put = Put("n", "old")
        self.assertEqual(str(If(Moved(), [ONE])), "if moved\nadd 1 one sum new\nend")
        self.assertEqual(str(If(Moved(), [ONE, put])), "if moved\nadd 1 one sum new\nput n old\nend")
        self.assertEqual(str(If(Moved(), [ONE], [put, ONE])),
                         "if moved\nadd 1 one sum new\nelse\nput n old\nadd 1 one sum new\nend")
        self.assertEqual(str(If(Not(Was("none")), [], [put])), "if not was none\nelse\nput n old\nend")

    def test_others_that_are_empty_write_no_else(self):
        for block in (If(Noted(), ()), If(Noted(), [], []), If(Noted(), (), others=())):
            self.assertEqual(str(block), "if noted\nend")
        self.assertEqual(str(If(Noted(), [ONE], [])), "if noted\nadd 1 one sum new\nend")

    def test_blocks_three_deep(self):
        inner = If(NewBelow(3), [ONE], [Mark("old")])
        middle = If(Noted(), [inner], [Put("n", "n"), If(OldBelow(1), [])])
        self.assertEqual(str(If(Moved(), [middle, ONE], [middle])).split("\n"), [
            "if moved",
            "if noted", "if new below 3", "add 1 one sum new", "else", "mark old", "end",
            "else", "put n n", "if old below 1", "end", "end",
            "add 1 one sum new",
            "else",
            "if noted", "if new below 3", "add 1 one sum new", "else", "mark old", "end",
            "else", "put n n", "if old below 1", "end", "end",
            "end"])


class Attributes(unittest.TestCase):
    """[14]: the arguments as attributes."""

    def test_rows(self):
        row = Add(-7, "n", "sum", "noted")
        self.assertEqual((row.factor, row.what, row.total, row.place), (-7, "n", "sum", "noted"))
        row = Put("n", "new")
        self.assertEqual((row.note, row.what), ("n", "new"))
        self.assertEqual(Mark("none").place, "none")

    def test_tests(self):
        self.assertEqual((Was("none").kind, OldBelow(-5).number, NewBelow(7).number), ("none", -5, 7))
        test = Noted()
        self.assertIs(Not(test).test, test)
        self.assertEqual((vars(Moved()), vars(Noted())), ({}, {}))

    def test_blocks(self):
        test, put = Moved(), Put("n", "old")
        for rows, others in ((([ONE, put]), [put]), ((ONE, put), (put,)), ([ONE, put], (put,))):
            block = If(test, rows, others)
            self.assertIs(block.test, test)
            self.assertIs(type(block.rows), tuple)
            self.assertIs(type(block.others), tuple)
            self.assertEqual((block.rows, block.others), ((ONE, put), (put,)))
        self.assertEqual((If(test, []).rows, If(test, []).others), ((), ()))

    def test_lists_that_change_afterwards(self):
        rows, others = [ONE], [Mark("old")]
        block = If(Moved(), rows, others)
        rows.append(ONE)
        others.clear()
        self.assertEqual((block.rows, block.others), ((ONE,), (Mark("old"),)))
        self.assertEqual(str(block), "if moved\nadd 1 one sum new\nelse\nmark old\nend")

    def test_arguments_by_name(self):
        self.assertEqual(Add(place="old", total="s", what="one", factor=2), Add(2, "one", "s", "old"))
        self.assertEqual(Put(what="n", note="m"), Put("m", "n"))
        self.assertEqual(Mark(place="old"), Mark("old"))
        self.assertEqual(If(others=[ONE], rows=(), test=Moved()), If(Moved(), (), [ONE]))
        self.assertEqual(Was(kind="none"), Was("none"))
        self.assertEqual((OldBelow(number=1), NewBelow(number=2)), (OldBelow(1), NewBelow(2)))
        self.assertEqual(Not(test=Noted()), Not(Noted()))


class Classes(unittest.TestCase):
    """[14]: rows are rows, and tests are tests."""

    def test_classes(self):
        for row in ROWS:
            self.assertIsInstance(row, Row)
            self.assertNotIsInstance(row, Test)
        for test in TESTS:
            self.assertIsInstance(test, Test)
            self.assertNotIsInstance(test, Row)

    def test_no_object_is_iterable(self):
        for value in ROWS + TESTS:
            for use in (iter, list, lambda value: ONE in value):
                with self.assertRaises(TypeError):
                    use(value)


class Equal(unittest.TestCase):
    """[14]: equality by class and text."""

    def test_equal(self):
        pairs = [
            (Add(2, "old", "sum", "new"), Add(2, "old", "sum", "new")), (Put("n", "m"), Put("n", "m")),
            (Mark("old"), Mark("old")), (If(Moved(), [ONE], [ONE]), If(Moved(), (ONE,), (ONE,))),
            (If(Moved(), [ONE]), If(Moved(), [ONE], [])), (Was("none"), Was("none")), (OldBelow(3), OldBelow(3)),
            (NewBelow(-3), NewBelow(-3)), (Moved(), Moved()), (Noted(), Noted()), (Not(Noted()), Not(Noted()))]
        for p, q in pairs:
            self.assertIs(p == q, True)
            self.assertIs(p != q, False)

    def test_unlike(self):
        values = [
            Add(2, "old", "sum", "new"), Add(3, "old", "sum", "new"), Add(2, "new", "sum", "new"),
            Add(2, "old", "sums", "new"), Add(2, "old", "sum", "noted"), Put("n", "m"), Put("m", "n"), Put("n", "n"),
            Mark("old"), Mark("new"), Mark("none"), If(Moved(), ()), If(Noted(), ()), If(Moved(), [ONE]),
            If(Moved(), [], [ONE]), If(Moved(), [ONE, ONE]), If(Moved(), [If(Moved(), [])]), If(Not(Moved()), ()),
            Was("none"), Was("open"), OldBelow(3), NewBelow(3), OldBelow(4), NewBelow(-3), Moved(), Noted(),
            Not(Moved()), Not(Noted()), Not(Not(Moved()))]
        for at, p in enumerate(values):
            for other, q in enumerate(values):
                self.assertIs(p == q, at == other, (str(p), str(q)))
                self.assertIs(p != q, at != other, (str(p), str(q)))

    def test_with_nothing_else(self):
        for value in ROWS + TESTS:
            for other in (str(value), None, 0, (), [value], (value,), vars(value)):
                self.assertIs(value == other, False)
                self.assertIs(other == value, False)
            for other in package_objects():
                if type(other) is not type(value):
                    self.assertIs(value == other, False)


class Wrong(unittest.TestCase):
    """[14]: InvalidRow with the first part that is wrong."""

    FACTORS = NO_INTEGERS + package_objects()
    WHATS = but(NO_NAMES, "old", "new", "one") + [["old"], ("new",)] + package_objects()
    NAMES = NO_NAMES + package_objects()
    PLACES = but(NO_NAMES, "old", "new", "noted", "none") + ["Old", "old ", "olds", ["old"], ("new",), "seen"]
    KINDS = but(NO_NAMES, "none") + [["none"], ("none",)] + package_objects()

    def test_statements(self):
        assert_wrong_arguments(self, Add, [
            (1, self.FACTORS, "factor"), ("old", self.WHATS, "what"), ("sum", self.NAMES, "total"),
            ("noted", self.PLACES + ["none"] + package_objects(), "place")], "InvalidRow")

    def test_puts(self):
        assert_wrong_arguments(self, Put, [("n", self.NAMES, "note"), ("n", self.WHATS, "what")], "InvalidRow")

    def test_marks(self):
        assert_wrong_arguments(self, Mark, [
            ("none", self.PLACES + ["noted"] + package_objects(), "place")], "InvalidRow")

    def test_blocks(self):
        rows = wrong_rows()
        assert_wrong_arguments(self, If, [
            (Moved(), no_tests(), "test"), ([ONE], rows, "row"), ([ONE], rows, "row")], "InvalidRow")
        assert_wrong_arguments(self, If, [(Moved(), no_tests(), "test"), ((), rows, "row")], "InvalidRow")

    def test_tests(self):
        assert_wrong_arguments(self, Was, [("open", self.KINDS, "kind")], "InvalidRow")
        assert_wrong_arguments(self, OldBelow, [(1, self.FACTORS, "number")], "InvalidRow")
        assert_wrong_arguments(self, NewBelow, [(1, self.FACTORS, "number")], "InvalidRow")
        assert_wrong_arguments(self, Not, [(Moved(), no_tests(), "test")], "InvalidRow")

    def test_what_is_let_by(self):
        for call in (lambda: Add(0, "a", "abcd", "noted"), lambda: Add(-10 ** 9, "one", "z", "old"),
                     lambda: Put("zzzz", "zzzz"), lambda: Put("nots", "olds"), lambda: Was("none"),
                     lambda: Was("nones"[:4]),
                     lambda: OldBelow(0), lambda: NewBelow(-10 ** 9), lambda: If(Noted(), (), ())):
            self.assertIsNone(raised(call))

    def test_tests_and_rows_take_their_arguments_only(self):
        for call in (lambda: Moved(1), lambda: Noted("a"), lambda: Add(1, "one", "sum"), lambda: If(Moved()),
                     lambda: Put("n"), lambda: Mark()):
            with self.assertRaises(TypeError):
                call()


if __name__ == "__main__":
    unittest.main()
