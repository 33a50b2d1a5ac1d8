"""[40], [41], [42]: stores."""

import random
import unittest

from sumlives.errors import Refused
from sumlives.lives import run_life
from sumlives.store import Store
from tests.drawn import amounts_of, drawn_book
from tests.helpers import NO_INTEGERS, NO_NAMES, raised
from tests.texts import HOPELESS, MANY, RIGHT, SUM, WRONG, book_of

TEXT = ("rest open ; rest paid ; pass way ; total sum ; total many ; note n ; worth sum open 1 amount",
        "worth sum paid 10 one from 5 ; worth many open 1 one ; event come none to open amount group",
        "event late none to way amount group ; event set open paid to paid amount ; event move open paid to open group",
        "event both open way to open amount group ; event go open paid way to none",
        "on come ; add 1 new sum new ; add 1 one many new ; put n new ; mark new ; on set ; add 3 one sum noted",
        "on move ; add 2 n sum old ; add 1 one many noted ; on go ; add -1 old sum noted")
BOOK = book_of(*TEXT)
TOTALS = ("sum", "many")
NO_TOTALS = [None, True, False, 0, 1, "", "Sum", "all", "open", "come", ("sum",), ["sum"], (), [], [[["sum"]]]]
DEEP = [[[[[[["a"]]]]]]]


def seen(store, totals=TOTALS, groups="abcz"):
    """All that a store tells."""
    asks = [(ask, total) for ask in (store.kept, store.anew, store.off) for total in totals]
    return (store.names, [store[key] for key in store.names], store.at_rest, len(store),
            [ask(total, group) for ask, total in asks for group in groups])


def filled(book=BOOK):
    """A store with some records."""
    store = Store(book)
    store.do("x", "come", 5, "a")
    store.do("y", "late", -7, "b")
    store.do("z", "come", 3, "a")
    store.do("z", "set", 8)
    return store


class Do(unittest.TestCase):
    """[40]."""

    def test_kinds_and_records(self):
        store = Store(BOOK)
        self.assertEqual((store.names, len(store), "x" in store, store.at_rest), ((), 0, False, True))
        self.assertEqual(store.do("x", "come", 5, "a"), "open")
        self.assertEqual(store["x"], ("open", 5, "a"))
        self.assertEqual(store.do("x", "set", -9), "paid")
        self.assertEqual(store["x"], ("paid", -9, "a"))
        self.assertEqual(store.do("x", "move", None, "b"), "open")
        self.assertEqual(store["x"], ("open", -9, "b"))
        self.assertEqual(store.do("x", "both", 10 ** 9 - 1, "b"), "open")
        self.assertEqual(store["x"], ("open", 10 ** 9 - 1, "b"))
        self.assertEqual(store.do("y", "late", 0, "abcd"), "way")
        self.assertEqual((store["y"], store["x"], store.at_rest), (("way", 0, "abcd"), ("open", 10 ** 9 - 1, "b"), False))
        self.assertIs(type(store["y"]), tuple)

    def test_names(self):
        store = Store(BOOK)
        for key in ("z", "b", "ba", "a", "abcd"):
            self.assertIs(key in store, False)
            store.do(key, "come", 1, "a")
            self.assertIs(key in store, True)
        self.assertEqual(store.names, ("a", "abcd", "b", "ba", "z"))
        self.assertIs(type(store.names), tuple)

    def test_a_record_that_goes_is_there_no_more(self):
        store = filled()
        self.assertEqual(store.do("x", "go"), "none")
        self.assertEqual((store.names, "x" in store, raised(lambda: store["x"])), (("y", "z"), False, ("Refused", "key")))
        self.assertEqual(raised(store.do, "x", "go"), ("Refused", "event"))
        self.assertEqual(raised(store.do, "x", "set", 4), ("Refused", "event"))

    def test_its_key_can_be_used_again(self):
        store = Store(BOOK)
        store.do("x", "come", 5, "a")
        self.assertEqual(raised(store.do, "x", "come", 5, "a"), ("Refused", "event"))
        self.assertEqual(raised(store.do, "x", "late", 5, "a"), ("Refused", "event"))
        store.do("x", "go")
        self.assertEqual(store.do("x", "late", 6, "b"), "way")
        self.assertEqual(store["x"], ("way", 6, "b"))
        # It is a new record: its note is 0, and no group is noted.
        store.do("x", "both", 6, "b")
        before = [store.kept("sum", group) for group in "ab"]
        store.do("x", "move", None, "a")
        self.assertEqual([store.kept("sum", group) for group in "ab"], before)
        store.do("x", "set", 1)
        self.assertEqual([store.kept("sum", group) for group in "ab"], before)

    def test_amounts_and_groups_that_are_not_passed(self):
        store = Store(BOOK)
        store.do("x", "come", 5, "a")
        store.do("x", "set", 6)
        store.do("x", "move", group="b")
        store.do("x", "go")
        self.assertEqual(len(store), 4)

    def assert_refused(self, store, word, *arguments):
        with self.subTest(arguments=arguments):
            before = seen(store)
            self.assertEqual(raised(store.do, *arguments), ("Refused", word))
            self.assertEqual(seen(store), before)

    def test_keys(self):
        for key in [*NO_NAMES, DEEP]:
            self.assert_refused(filled(), "key", key, "come", 5, "a")

    def test_events(self):
        for event in [*NO_NAMES, "nope", "open", "sum", DEEP]:
            for key in ("x", "y", "q"):
                self.assert_refused(filled(), "event", key, event, 5, "a")

    def test_events_that_are_not_possible_now(self):
        for key, events in (("x", ("come", "late")), ("y", ("come", "late", "set", "move")), ("z", ("come", "both")),
                            ("q", ("set", "move", "both", "go"))):
            for event in events:
                for arguments in ((), (5,), (5, "a"), (None, "a")):
                    self.assert_refused(filled(), "event", key, event, *arguments)

    def test_amounts(self):
        for value in [*NO_INTEGERS, DEEP]:
            self.assert_refused(filled(), "amount", "q", "come", value, "a")
            self.assert_refused(filled(), "amount", "x", "set", value)
            self.assert_refused(filled(), "amount", "x", "both", value, "a")
            if value is not None:
                self.assert_refused(filled(), "amount", "x", "move", value, "a")
                self.assert_refused(filled(), "amount", "x", "go", value)
        for value in (0, 1, -5, 10 ** 9):
            self.assert_refused(filled(), "amount", "x", "move", value, "a")
            self.assert_refused(filled(), "amount", "x", "go", value)

    def test_groups(self):
        for value in [*NO_NAMES, DEEP]:
            self.assert_refused(filled(), "group", "q", "come", 5, value)
            self.assert_refused(filled(), "group", "x", "move", None, value)
            if value is not None:
                self.assert_refused(filled(), "group", "x", "set", 5, value)
                self.assert_refused(filled(), "group", "x", "go", None, value)
        for value in ("a", "b", "abcd"):
            self.assert_refused(filled(), "group", "x", "set", 5, value)
            self.assert_refused(filled(), "group", "x", "go", None, value)

    def test_several_wrong_arguments_at_once(self):
        for key in ("none", None, ["x"]):
            for event in ("nope", None, "come"):
                for amount in (None, True, 5):
                    for group in (None, "none", "a"):
                        self.assert_refused(filled(), "key", key, event, amount, group)
        for event in ("nope", None, "come", ["set"]):
            for amount in (None, True, 5):
                for group in (None, "none", "a"):
                    self.assert_refused(filled(), "event", "x", event, amount, group)
        for group in (None, "none", "a", 5):
            self.assert_refused(filled(), "amount", "x", "set", "5", group)
            self.assert_refused(filled(), "amount", "x", "go", 5, group)

    def test_any_value_as_a_key_to_look_up(self):
        store = filled()
        for key in [*NO_NAMES, "q", "a", "come", DEEP, ("x",), ["x"]]:
            with self.subTest(key=key):
                self.assertIs(key in store, False)
                self.assertEqual(raised(lambda: store[key]), ("Refused", "key"))

    def test_not_iterable(self):
        for store in (Store(BOOK), filled()):
            for call in (iter, list, tuple, set, sorted, max):
                with self.assertRaises(TypeError):
                    call(store)
            with self.assertRaises(TypeError):
                for _ in store:
                    pass
            with self.assertRaises(TypeError):
                iter(store.trial())

    def test_two_stores_of_one_book(self):
        one, other = Store(BOOK), Store(BOOK)
        one.do("x", "come", 5, "a")
        self.assertEqual((other.names, len(other), other.kept("sum", "a")), ((), 0, 0))
        other.do("x", "late", 6, "b")
        self.assertEqual((one["x"], other["x"], len(one)), (("open", 5, "a"), ("way", 6, "b"), 1))
        other.recount()
        one.undo()
        self.assertEqual((one.names, other.names, len(one), len(other)), ((), ("x",), 0, 2))


class Totals(unittest.TestCase):
    """[41]."""

    def test_kept_anew_and_off(self):
        store = filled()
        self.assertEqual([store.kept("sum", group) for group in "abz"], [5 + 3 + 3, 0, 0])
        self.assertEqual([store.kept("many", group) for group in "abz"], [2, 0, 0])
        # In the group a there are one that is open with 5, and one that is paid with 8; in b there is one on its way.
        self.assertEqual([store.anew("sum", group) for group in "abz"], [5 + 10, 0, 0])
        self.assertEqual([store.anew("many", group) for group in "abz"], [1, 0, 0])
        self.assertEqual([store.off("sum", group) for group in "abz"], [-4, 0, 0])
        self.assertEqual([store.off("many", group) for group in "abz"], [1, 0, 0])

    def test_what_is_left_behind(self):
        store = filled()
        store.do("x", "move", None, "b")
        self.assertEqual([store.kept("sum", group) for group in "abc"], [11 + 2 * 5, 0, 0])
        self.assertEqual([store.anew("sum", group) for group in "abc"], [10, 5, 0])
        store.do("x", "go")
        self.assertEqual([store.kept("sum", group) for group in "abc"], [21 - 5, 0, 0])
        self.assertEqual([store.anew("sum", group) for group in "abc"], [10, 0, 0])

    def test_no_total(self):
        for store in (Store(BOOK), filled()):
            for ask in (store.kept, store.anew, store.off):
                for total in NO_TOTALS:
                    for group in ("a", "q"):
                        self.assertEqual(raised(ask, total, group), ("NoTotal", total))

    def test_at_rest(self):
        store = Store(BOOK)
        self.assertIs(store.at_rest, True)
        store.do("x", "come", 5, "a")
        self.assertIs(store.at_rest, True)
        store.do("y", "late", 5, "a")
        self.assertIs(store.at_rest, False)
        store.do("x", "set", 5)
        self.assertIs(store.at_rest, False)
        store.do("y", "both", 5, "b")
        self.assertIs(store.at_rest, True)
        store.do("x", "go")
        self.assertIs(store.at_rest, True)

    def test_it_is_the_sum_of_the_lives(self):
        for seed in range(25):
            book = drawn_book(seed, kinds=2, notes=seed % 2, cuts=seed % 2, totals=1 + seed % 2)
            rng = random.Random(seed)
            store, lives = Store(book), {}
            for _ in range(25):
                key = rng.choice("xyz")
                deeds = lives.setdefault(key, [])
                event = rng.choice(book.events)
                deed = (event.name, rng.choice(amounts_of(book)) if event.amount else None,
                        rng.choice("ab") if event.group else None)
                if run_life(book, deeds).kind in event.origins:
                    deeds.append(deed)
                    self.assertEqual(store.do(key, *deed), run_life(book, deeds).kind)
                else:
                    self.assertEqual(raised(store.do, key, *deed), ("Refused", "event"))
            told = {key: run_life(book, deeds) for key, deeds in lives.items()}
            there = {key: life for key, life in told.items() if life.kind != "none"}
            self.assertEqual(store.names, tuple(sorted(there)))
            self.assertEqual([store[key] for key in store.names],
                             [(life.kind, life.amount, life.group) for _, life in sorted(there.items())])
            self.assertIs(store.at_rest, all(life.at_rest for life in told.values()))
            for total in book.totals:
                for group in "abc":
                    self.assertEqual(store.kept(total, group), sum(life.kept(total, group) for life in told.values()))
                    self.assertEqual(store.anew(total, group), sum(life.worth(total, group) for life in told.values()))
                    self.assertEqual(store.off(total, group), store.kept(total, group) - store.anew(total, group))

    def test_a_right_book_is_off_nowhere_whenever_all_rest(self):
        for name, book in RIGHT.items():
            rng = random.Random(name)
            store = Store(book)
            for _ in range(60):
                event = rng.choice(book.events)
                deed = (event.name, rng.randint(-12, 12) if event.amount else None, rng.choice("abc") if event.group else None)
                raised(store.do, rng.choice("xyz"), *deed)
                if store.at_rest:
                    self.assertEqual([store.off(total, group) for total in book.totals for group in "abcd"],
                                     [0] * 4 * len(book.totals))
                    with store.trial():
                        self.assertEqual(store.recount(), 0)


class Recount(unittest.TestCase):
    """[41]."""

    def test_how_many_were_off(self):
        store = filled()
        self.assertEqual(store.recount(), 2)
        self.assertEqual([store.off(total, group) for total in TOTALS for group in "abc"], [0] * 6)
        self.assertEqual(store.kept("sum", "a"), 15)
        self.assertEqual(store.recount(), 0)
        self.assertEqual(len(store), 6)

    def test_each_total_of_each_group(self):
        book = book_of("rest open ; total s ; total t ; event come none to open amount group ; event go open to none",
                       "on come ; add 1 new s new ; add 1 one t new")
        store = Store(book)
        for at, group in enumerate("abc"):
            store.do("x" + group, "come", at, group)
        # The amount is 0 in the first group, so one of six is not off.
        self.assertEqual(store.recount(), 5)
        for group in "abc":
            store.do("x" + group, "go")
        self.assertEqual(store.recount(), 0)

    def test_groups_that_records_have_left_and_groups_of_nothing_but_records(self):
        store = Store(book_of(MANY, "event go open to none ; event move open to open group ; on come ; add 1 one many new",
                              "on go ; add 0 one many new"))
        store.do("x", "come", 1, "a")
        store.do("x", "move", None, "b")
        self.assertEqual((store.kept("many", "b"), store.anew("many", "b")), (0, 1))
        self.assertEqual(store.recount(), 2)
        self.assertEqual([store.kept("many", group) for group in "ab"], [0, 1])
        store.do("x", "go")
        self.assertEqual((store.recount(), store.kept("many", "b")), (1, 0))

    def test_nothing_to_recount(self):
        store = Store(BOOK)
        self.assertEqual((store.recount(), len(store), store.undo(), store.undo()), (0, 1, True, False))

    def test_deeds_behind_it(self):
        store = filled()
        store.recount()
        # What is noted with a record stays: the handlers go on from the new totals.
        store.do("x", "move", None, "b")
        self.assertEqual([store.kept("sum", group) for group in "ab"], [15 + 2 * 5, 0])
        self.assertEqual([store.kept("many", group) for group in "ab"], [1 + 1, 0])
        store.do("y", "both", 4, "c")
        self.assertEqual([store.off("sum", group) for group in "abc"], [25 - 10, -5, -4])
        self.assertEqual([store.off("many", group) for group in "abc"], [2, -1, -1])
        self.assertEqual(store.recount(), 6)

    def test_records_on_their_way_are_worth_nothing(self):
        store = Store(book_of("rest open ; pass way ; total sum ; worth sum open 1 amount ; event come none to way amount group",
                              "event end way to open ; on come ; add 1 new sum new"))
        store.do("x", "come", 5, "a")
        self.assertEqual((store.off("sum", "a"), store.recount(), store.kept("sum", "a")), (5, 1, 0))
        store.do("x", "end")
        self.assertEqual((store.off("sum", "a"), store.recount(), store.kept("sum", "a")), (-5, 1, 5))


class Several(unittest.TestCase):
    """[41]."""

    DEEDS = (("x", "come", 5, "a"), ("y", "late", -7, "b"), ("z", "come", 3, "a"), ("z", "set", 8, None))

    def test_as_one_after_another(self):
        for deeds in (self.DEEDS, list(self.DEEDS)):
            store = Store(BOOK)
            self.assertEqual(store.several(deeds), ("open", "way", "open", "paid"))
            self.assertEqual(len(store), 1)
            self.assertEqual(seen(store)[:3] + seen(store)[4:], seen(filled())[:3] + seen(filled())[4:])
        self.assertEqual(deeds, list(self.DEEDS))

    def test_an_empty_one(self):
        for deeds in ((), []):
            store = filled()
            told = store.several(deeds)
            self.assertEqual((told, type(told), len(store)), ((), tuple, 5))
            self.assertEqual(seen(store)[4], seen(filled())[4])
            self.assertIs(store.undo(), True)
            self.assertEqual(seen(store), seen(filled()))

    def test_an_error_amid_it(self):
        for wrong, word in ((("x", "come", 5, "a"), "event"), (("none", "come", 5, "a"), "key"), ((["q"], 0, 0, 0), "key"),
                            (("r", "come", None, "a"), "amount"), (("r", "come", 5, None), "group"),
                            (("x", "nope", None, None), "event"), (("x", "move", 5, "b"), "amount")):
            for at in range(3):
                good = [("q", "late", 5, "a"), ("q", "go", None, None)]
                store = filled()
                self.assertEqual(raised(store.several, [*good[:at], wrong, *good[at:]]), ("Refused", word))
                self.assertEqual(seen(store), seen(filled()))

    def test_what_is_no_tuple_of_four_changes_nothing_either(self):
        for wrong in (("x", "go"), (), ("x", "go", None, None, None), None, 5):
            store = filled()
            with self.assertRaises(Exception):
                store.several([("x", "go", None, None), wrong])
            self.assertEqual(seen(store), seen(filled()))

    def test_a_list_that_changes_afterwards(self):
        store, deeds = Store(BOOK), list(self.DEEDS)
        store.several(deeds)
        before = seen(store)
        deeds.clear()
        self.assertEqual(seen(store), before)

    def test_the_same_key_twice(self):
        store = Store(BOOK)
        self.assertEqual(store.several([("x", "come", 1, "a"), ("x", "go", None, None), ("x", "late", 2, "b")]),
                         ("open", "none", "way"))
        self.assertEqual((store["x"], store.kept("many", "a")), (("way", 2, "b"), 1))


class Undo(unittest.TestCase):
    """[42]."""

    def test_back_to_nothing(self):
        store = Store(BOOK)
        told = [seen(store)]
        calls = [lambda: store.do("x", "come", 5, "a"), lambda: store.do("x", "move", None, "b"), store.recount,
                 lambda: store.several(Several.DEEDS[1:]), lambda: store.several([]), lambda: store.do("x", "go"),
                 lambda: store.do("x", "come", 1, "c"), store.recount, store.recount]
        for at, call in enumerate(calls):
            call()
            self.assertEqual(len(store), at + 1)
            told.append(seen(store))
        for before in told[-2::-1]:
            self.assertIs(store.undo(), True)
            self.assertEqual(seen(store), before)
        for _ in range(2):
            self.assertIs(store.undo(), False)
            self.assertEqual(seen(store), told[0])

    def test_what_comes_behind_it(self):
        store = filled()
        store.undo()
        self.assertEqual((store["z"], len(store)), (("open", 3, "a"), 3))
        self.assertEqual(store.do("z", "set", 8), "paid")
        self.assertEqual(seen(store), seen(filled()))

    def test_notes_and_marks_come_back(self):
        store = filled()
        store.do("x", "go")
        store.undo()
        store.do("x", "move", None, "b")
        other = filled()
        other.do("x", "move", None, "b")
        self.assertEqual(seen(store), seen(other))
        for both in (store, other):
            both.do("x", "set", 1)
            both.do("x", "go")
        self.assertEqual(seen(store), seen(other))

    def test_errors_are_no_deeds(self):
        store = filled()
        raised(store.do, "x", "come", 5, "a")
        raised(store.several, [("x", "go", None, None), ("x", "go", None, None)])
        raised(store.kept, "all", "a")
        self.assertEqual(len(store), 4)
        store.undo()
        self.assertEqual(store["z"], ("open", 3, "a"))

    def test_many_deeds(self):
        store = Store(BOOK)
        for at in range(100):
            store.do("x", "come", at, "a")
            store.do("x", "go")
        self.assertEqual(len(store), 200)
        self.assertEqual(sum(store.undo() for _ in range(300)), 200)
        self.assertEqual(seen(store), seen(Store(BOOK)))


class Trials(unittest.TestCase):
    """[42]."""

    def test_the_value_and_what_is_left(self):
        store = filled()
        before = seen(store)
        with store.trial() as told:
            self.assertIs(told, store)
            store.do("x", "go")
            store.recount()
            self.assertEqual((len(store), store.names), (6, ("y", "z")))
        self.assertEqual(seen(store), before)
        self.assertIs(store.undo(), True)
        self.assertEqual(len(store), 3)

    def test_left_by_an_error(self):
        for error in (ValueError, KeyError("x"), Refused("key"), StopIteration, KeyboardInterrupt):
            store = filled()
            with self.assertRaises(error if isinstance(error, type) else type(error)) as caught:
                with store.trial():
                    store.do("x", "go")
                    raise error
            if not isinstance(error, type):
                self.assertIs(caught.exception, error)
            self.assertEqual(seen(store), seen(filled()))

    def test_an_error_of_the_store_goes_on(self):
        store = filled()
        with self.assertRaises(Refused) as caught:
            with store.trial():
                store.do("x", "go")
                store.do("x", "go")
        self.assertEqual((caught.exception.word, seen(store)), ("event", seen(filled())))

    def test_blocks_within_blocks(self):
        store = filled()
        with store.trial():
            store.do("x", "go")
            middle = seen(store)
            with store.trial() as inner:
                inner.do("x", "come", 1, "c")
                with self.assertRaises(Refused):
                    with store.trial():
                        store.undo()
                        store.undo()
                        self.assertEqual(store["x"], ("open", 5, "a"))
                        store["q"]
                self.assertEqual(store["x"], ("open", 1, "c"))
            self.assertEqual(seen(store), middle)
        self.assertEqual(seen(store), seen(filled()))

    def test_undo_and_recount_within(self):
        store = filled()
        with store.trial():
            while store.undo():
                pass
            self.assertEqual((len(store), store.names), (0, ()))
            store.recount()
            store.several([("x", "late", 1, "a")])
            self.assertIs(store.undo(), True)
            self.assertEqual(len(store), 1)
        self.assertEqual(seen(store), seen(filled()))
        for _ in range(4):
            self.assertIs(store.undo(), True)
        self.assertEqual(seen(store), seen(Store(BOOK)))

    def test_a_new_one_each_time(self):
        store = Store(BOOK)
        one, other = store.trial(), store.trial()
        self.assertIsNot(one, other)
        store.do("x", "come", 5, "a")
        # It counts when the block is entered, not when the trial was made.
        with one:
            store.do("x", "go")
        self.assertEqual(store.names, ("x",))
        store.do("y", "come", 5, "a")
        with other:
            store.do("y", "go")
        self.assertEqual(store.names, ("x", "y"))

    def test_trials_of_two_stores(self):
        one, other = filled(), filled()
        with one.trial(), other.trial():
            one.do("x", "go")
            other.do("z", "go")
            self.assertEqual((one.names, other.names), (("y", "z"), ("x", "y")))
        self.assertEqual((seen(one), seen(other)), (seen(filled()), seen(filled())))

    def test_return_and_break(self):
        store = filled()

        def left():
            with store.trial():
                store.do("x", "go")
                return store.names

        self.assertEqual(left(), ("y", "z"))
        for _ in range(2):
            with store.trial():
                store.do("y", "go")
                break
        self.assertEqual(seen(store), seen(filled()))

    def test_within(self):
        store = filled()
        told = store.within(lambda some: (some is store, some.do("x", "go"), some.recount(), len(some), some.names))
        self.assertEqual(told, (True, "none", 2, 6, ("y", "z")))
        self.assertEqual(seen(store), seen(filled()))
        self.assertIsNone(store.within(lambda some: None))
        self.assertIs(store.within(lambda some: some), store)
        self.assertEqual(store.within(lambda some: some.within(lambda more: more.undo() and len(more)) + len(some)), 7)

    def test_an_error_within_goes_on(self):
        store, error = filled(), KeyError("q")

        def fail(some):
            some.do("x", "go")
            raise error

        with self.assertRaises(KeyError) as caught:
            store.within(fail)
        self.assertIs(caught.exception, error)
        self.assertEqual(seen(store), seen(filled()))
        self.assertEqual(raised(store.within, lambda some: some.do("x", "come", 5, "a")), ("Refused", "event"))
        self.assertEqual(seen(store), seen(filled()))


class Against(unittest.TestCase):
    """Any calls, against what is made anew from those that count."""

    def made_anew(self, book, calls):
        store = Store(book)
        for call in calls:
            call(store)
        return store

    def test_any_calls(self):
        books = [BOOK, *HOPELESS.values(), *[book for book, _ in WRONG.values()]]
        for seed, book in enumerate(books * 2):
            rng = random.Random(seed)
            store, calls, undone = Store(book), [], []
            for _ in range(40):
                way = rng.random()
                deeds = []
                for _ in range(rng.randint(0, 3)):
                    event = rng.choice(book.events)
                    deeds.append((rng.choice("xyz"), event.name, rng.randint(-3, 12) if event.amount else None,
                                  rng.choice("abc") if event.group else None))
                call = None
                if way < 0.5 and deeds:
                    def call(some, deed=deeds[0]):
                        return some.do(*deed)
                elif way < 0.7:
                    def call(some, deeds=tuple(deeds)):
                        return some.several(deeds)
                elif way < 0.8:
                    call = Store.recount
                elif way < 0.9:
                    self.assertIs(store.undo(), bool(calls))
                    undone.extend(calls[-1:])
                    calls = calls[:-1]
                else:
                    def work(some, deeds=tuple(deeds)):
                        some.recount()
                        some.undo()
                        some.undo()
                        some.several(deeds)
                        return some.undo()
                    raised(store.within, work)
                if call is not None and raised(call, store) is None:
                    calls.append(call)
                self.assertEqual(seen(store, book.totals), seen(self.made_anew(book, calls), book.totals))


class Bare(unittest.TestCase):
    def test_a_book_without_statements_is_kept(self):
        store = Store(book_of(SUM))
        self.assertEqual(store.do("x", "come", 5, "a"), "open")
        self.assertEqual((store.kept("sum", "a"), store.off("sum", "a"), store.recount()), (0, -5, 1))


if __name__ == "__main__":
    unittest.main()
