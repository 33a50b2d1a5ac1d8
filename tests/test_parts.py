"""[15], [16], [17]: events, worths and handlers."""

import itertools
import unittest

from sumlives.parts import Event, Handler, Worth
from sumlives.rows import Add, If, Mark, Moved, Put
from tests.helpers import NO_INTEGERS, NO_NAMES, assert_wrong_arguments, but, package_objects, raised
from tests.test_rows import ONE, wrong_rows

NO_BOOLS = [None, 0, 1, 2, "", "amount", "group", "True", (), [], [True], (False,)]


class Events(unittest.TestCase):
    """[15]: events."""

    NO_ORIGINS = [None, True, 0, 1, "", "open", "none", [], (), ["open", "open"], ("a", "b", "a"), ["none", "none"],
                  ["none", "open"], ("open", "none"), ["open", "to"], [["open"]], ["open", ["paid"]], [("none",)],
                  ["open", None], [True], (1,), ["Open"], ["opens"], [("open", "paid")], {"open": 1}]

    def shown(self, event):
        return event.name, event.origins, event.kind, event.amount, event.group

    def test_attributes(self):
        event = Event("set", ["paid", "open"], "paid", True, False)
        self.assertEqual(self.shown(event), ("set", ("paid", "open"), "paid", True, False))
        self.assertEqual(self.shown(Event("move", ("open",), "open")), ("move", ("open",), "open", False, False))
        self.assertEqual(self.shown(Event("come", ("none",), "a", True, True)), ("come", ("none",), "a", True, True))
        self.assertEqual(self.shown(Event("go", ["b", "a"], "none")), ("go", ("b", "a"), "none", False, False))
        for origins in (["open"], ("open",), ["none"], ("none",)):
            self.assertIs(type(Event("x", origins, "open", True, True).origins), tuple)

    def test_bools_stay_bools(self):
        event = Event("set", ["open"], "paid", amount=True, group=False)
        self.assertIs(event.amount, True)
        self.assertIs(event.group, False)

    def test_texts(self):
        self.assertEqual(str(Event("set", ["open", "paid"], "paid", True)), "event set open paid to paid amount")
        self.assertEqual(str(Event("set", ["open"], "open")), "event set open to open")
        self.assertEqual(str(Event("move", ["open"], "open", group=True)), "event move open to open group")
        self.assertEqual(str(Event("both", ["open"], "open", True, True)), "event both open to open amount group")
        self.assertEqual(str(Event("come", ["none"], "open", True, True)), "event come none to open amount group")
        self.assertEqual(str(Event("go", ("b", "a"), "none")), "event go b a to none")

    def test_arguments_by_name(self):
        self.assertEqual(Event(group=True, kind="b", amount=False, origins=("a",), name="x"),
                         Event("x", ["a"], "b", False, True))

    def test_a_list_that_changes_afterwards(self):
        origins = ["open"]
        event = Event("set", origins, "open")
        origins.append("paid")
        self.assertEqual((event.origins, str(event)), (("open",), "event set open to open"))

    def test_equal(self):
        self.assertIs(Event("set", ["a", "b"], "a", True) == Event("set", ("a", "b"), "a", True, False), True)
        self.assertIs(Event("set", ["a"], "a") != Event("set", ["a"], "a"), False)
        values = [Event("set", ["a", "b"], "a"), Event("set", ["b", "a"], "a"), Event("get", ["a", "b"], "a"),
                  Event("set", ["a"], "a"), Event("set", ["a", "b"], "b"), Event("set", ["a", "b"], "none"),
                  Event("set", ["a", "b"], "a", True), Event("set", ["a", "b"], "a", False, True),
                  Event("set", ["a", "b"], "a", True, True)]
        for (at, p), (other, q) in itertools.product(enumerate(values), repeat=2):
            self.assertIs(p == q, at == other)
        for other in [str(values[0]), None, ["set"], *[x for x in package_objects() if not isinstance(x, Event)]]:
            self.assertIs(values[0] == other, False)

    def test_wrong_arguments(self):
        objects = package_objects()
        assert_wrong_arguments(self, Event, [
            ("set", NO_NAMES + objects, "name"),
            (["open"], self.NO_ORIGINS + objects + [[value] for value in objects], "origins"),
            ("paid", but(NO_NAMES, "none") + [["none"]] + objects, "kind"),
            (True, NO_BOOLS + objects, "amount"),
            (False, NO_BOOLS + objects, "group")], "InvalidRow")

    def test_both_kinds_none(self):
        for origins in (["none"], ("none",)):
            for amount, group in itertools.product((True, False, None), repeat=2):
                self.assertEqual(raised(Event, "x", origins, "none", amount, group), ("InvalidRow", "kind"))

    def test_a_record_that_comes_brings_both(self):
        for origins in (["none"], ("none",)):
            self.assertIsNone(raised(Event, "come", origins, "open", True, True))
            self.assertEqual(raised(Event, "come", origins, "open", False, True), ("InvalidRow", "amount"))
            self.assertEqual(raised(Event, "come", origins, "open", True, False), ("InvalidRow", "group"))
            self.assertEqual(raised(Event, "come", origins, "open", False, False), ("InvalidRow", "amount"))
            self.assertEqual(raised(Event, "come", origins, "open"), ("InvalidRow", "amount"))
            self.assertEqual(raised(Event, "come", origins, "open", True), ("InvalidRow", "group"))
            self.assertEqual(raised(Event, "come", origins, "open", 1, True), ("InvalidRow", "amount"))
            self.assertEqual(raised(Event, "come", origins, "open", True, 1), ("InvalidRow", "group"))
            self.assertEqual(raised(Event, "come", origins, "open", None, None), ("InvalidRow", "amount"))

    def test_a_record_that_goes_brings_nothing(self):
        self.assertIsNone(raised(Event, "go", ["open"], "none", False, False))
        self.assertIsNone(raised(Event, "go", ["open"], "none"))
        self.assertEqual(raised(Event, "go", ["open"], "none", True, False), ("InvalidRow", "amount"))
        self.assertEqual(raised(Event, "go", ["open"], "none", False, True), ("InvalidRow", "group"))
        self.assertEqual(raised(Event, "go", ["open"], "none", True, True), ("InvalidRow", "amount"))
        self.assertEqual(raised(Event, "go", ["open"], "none", 0, False), ("InvalidRow", "amount"))
        self.assertEqual(raised(Event, "go", ["open"], "none", False, 0), ("InvalidRow", "group"))

    def test_other_events_bring_what_they_tell(self):
        for amount, group in itertools.product((True, False), repeat=2):
            self.assertIsNone(raised(Event, "set", ["open"], "open", amount, group))


class Worths(unittest.TestCase):
    """[16]: worths."""

    def test_attributes(self):
        worth = Worth("sum", "open", -2, "amount", -5, 100)
        self.assertEqual((worth.total, worth.kind, worth.factor, worth.what, worth.least, worth.below),
                         ("sum", "open", -2, "amount", -5, 100))
        worth = Worth("many", "paid", 0, "one")
        self.assertEqual((worth.factor, worth.what, worth.least, worth.below), (0, "one", None, None))

    def test_texts(self):
        self.assertEqual(str(Worth("sum", "open", 1, "amount")), "worth sum open 1 amount")
        self.assertEqual(str(Worth("sum", "open", -12, "one")), "worth sum open -12 one")
        self.assertEqual(str(Worth("sum", "open", 1, "amount", 0)), "worth sum open 1 amount from 0")
        self.assertEqual(str(Worth("sum", "open", 1, "amount", None, 0)), "worth sum open 1 amount below 0")
        self.assertEqual(str(Worth("sum", "open", 1, "amount", below=-7)), "worth sum open 1 amount below -7")
        self.assertEqual(str(Worth("sum", "open", 1, "amount", 0, 100)), "worth sum open 1 amount from 0 below 100")
        self.assertEqual(str(Worth("s", "o", 0, "one", -9, -8)), "worth s o 0 one from -9 below -8")

    def test_arguments_by_name(self):
        self.assertEqual(Worth(below=3, least=2, what="one", factor=5, kind="k", total="t"),
                         Worth("t", "k", 5, "one", 2, 3))

    def test_equal(self):
        values = [Worth("s", "k", 1, "one"), Worth("t", "k", 1, "one"), Worth("s", "j", 1, "one"),
                  Worth("s", "k", 2, "one"), Worth("s", "k", 1, "amount"), Worth("s", "k", 1, "one", 0),
                  Worth("s", "k", 1, "one", None, 0), Worth("s", "k", 1, "one", 0, 1)]
        for (at, p), (other, q) in itertools.product(enumerate(values), repeat=2):
            self.assertIs(p == q, at == other)
        self.assertIs(Worth("s", "k", 1, "one", 0, 1) == Worth("s", "k", 1, "one", 0, 1), True)
        self.assertIs(Worth("s", "k", 1, "one", None, None) != Worth("s", "k", 1, "one"), False)
        for other in [str(values[0]), None, 1, *[x for x in package_objects() if not isinstance(x, Worth)]]:
            self.assertIs(values[0] == other, False)

    def test_wrong_arguments(self):
        objects = package_objects()
        bounds = but(NO_INTEGERS, None) + objects
        assert_wrong_arguments(self, Worth, [
            ("sum", NO_NAMES + objects, "total"),
            ("open", NO_NAMES + objects, "kind"),
            (3, NO_INTEGERS + objects, "factor"),
            ("one", but(NO_NAMES, "one", "amount") + ["from", "below", ["one"], ("amount",)] + objects, "what"),
            (2, bounds, "least"),
            (3, bounds + [2, 1, -3], "below")], "InvalidRow")

    def test_bounds(self):
        self.assertEqual(raised(Worth, "s", "k", 1, "one", 0, 0), ("InvalidRow", "below"))
        self.assertEqual(raised(Worth, "s", "k", 1, "one", 0, -1), ("InvalidRow", "below"))
        self.assertEqual(raised(Worth, "s", "k", 1, "one", True, True), ("InvalidRow", "least"))
        self.assertEqual(raised(Worth, "s", "k", 1, "one", 0, True), ("InvalidRow", "below"))
        self.assertEqual(raised(Worth, "s", "k", 1, "one", None, False), ("InvalidRow", "below"))
        self.assertEqual(raised(Worth, "s", "k", 1, "one", "0", None), ("InvalidRow", "least"))
        for least, below in ((0, 1), (-1, 0), (-5, -4), (None, -5), (0, None), (None, None)):
            self.assertIsNone(raised(Worth, "s", "k", 1, "one", least, below))


class Handlers(unittest.TestCase):
    """[17]: handlers."""

    BLOCK = If(Moved(), [ONE], [Put("n", "old")])

    def test_attributes(self):
        for rows in ([ONE, self.BLOCK], (ONE, self.BLOCK)):
            handler = Handler("come", rows)
            self.assertEqual((handler.event, handler.rows), ("come", (ONE, self.BLOCK)))
            self.assertIs(type(handler.rows), tuple)
        self.assertEqual((Handler("go").rows, Handler("go", []).rows), ((), ()))

    def test_texts(self):
        self.assertEqual(str(Handler("come")), "on come")
        self.assertEqual(str(Handler("come", [ONE, Mark("old")])), "on come\nadd 1 one sum new\nmark old")
        self.assertEqual(str(Handler("go", [self.BLOCK, ONE])),
                         "on go\nif moved\nadd 1 one sum new\nelse\nput n old\nend\nadd 1 one sum new")

    def test_arguments_by_name(self):
        self.assertEqual(Handler(rows=[ONE], event="go"), Handler("go", (ONE,)))
        self.assertEqual(Handler(event="go"), Handler("go"))

    def test_a_list_that_changes_afterwards(self):
        rows = [ONE]
        handler = Handler("come", rows)
        rows.clear()
        self.assertEqual((handler.rows, str(handler)), ((ONE,), "on come\nadd 1 one sum new"))

    def test_equal(self):
        values = [Handler("go"), Handler("come"), Handler("go", [ONE]), Handler("go", [ONE, ONE]),
                  Handler("go", [Add(2, "one", "sum", "new")]), Handler("go", [If(Moved(), [ONE])])]
        for (at, p), (other, q) in itertools.product(enumerate(values), repeat=2):
            self.assertIs(p == q, at == other)
        self.assertIs(Handler("go", [ONE]) == Handler("go", (ONE,)), True)
        for other in [str(values[0]), None, (), *[x for x in package_objects() if not isinstance(x, Handler)]]:
            self.assertIs(values[0] == other, False)

    def test_wrong_arguments(self):
        objects = package_objects()
        assert_wrong_arguments(self, Handler, [
            ("come", NO_NAMES + objects, "event"), ([ONE], wrong_rows(), "row")], "InvalidRow")

    def test_no_object_is_iterable(self):
        for value in (Handler("go", [ONE]), Event("go", ["open"], "none"), Worth("s", "k", 1, "one")):
            for use in (iter, list, tuple, lambda value: ONE in value):
                with self.assertRaises(TypeError):
                    use(value)


if __name__ == "__main__":
    unittest.main()
