"""[32], [33], [34]: least sets of statements to mend, that are enough, of events to blame, and idle statements."""

import itertools
import unittest

from sumlives.books import Book
from sumlives.deciding import is_right, right_factors
from sumlives.lives import run_life
from sumlives.mending import blamed, idle, least_enough, least_mends, mended
from sumlives.systems import Factors
from tests.drawn import drawn_book, lives_of, watched_in
from tests.helpers import NO_SEQUENCES, PLAIN, raised
from tests.texts import HOPELESS, MANY, PLAY, RIGHT, SUM, WRONG, book_of

BARE = book_of(SUM)
MOVE = "event move open to open group"
SAME = book_of(SUM, "on come ; add 4 new sum new ; add 7 new sum old ; add 1 one sum noted")
SETS = "event set open to open amount ; event go open to none"
ROWS = "on come ; add {} new sum new ; on set ; add {} new sum new ; add {} old sum new ; on go ; add {} old sum old"


def sets_of(*factors):
    """The book of PLAIN with other factors."""
    return book_of(SUM, SETS, ROWS.format(*factors))


def small_books():
    """Books within the limits for mending."""
    drawn = [drawn_book(seed, kinds=1 + seed % 2, notes=seed % 2, cuts=seed % 3, totals=1 + seed % 2, events=2 + seed % 3,
                        statements=1 + seed % 5, factors=(0, 1, -1, 2)) for seed in range(60)]
    return [*RIGHT.values(), *[book for book, _ in WRONG.values()], *HOPELESS.values(), SAME, *drawn]


def can_be_right(book, numbers, factors):
    """Whether others for these statements make factors right, by a system of equations."""
    width = len(book)
    units = [tuple(int(at == place) for at in range(width)) for place in range(width)]
    kept = [at for at in range(width) if at not in numbers]
    fixed = Factors.solving(width, [units[at] for at in kept], [factors[at] for at in kept])
    return bool(fixed & right_factors(book))


def least_of(parts, holds):
    """All choices for which something holds, but for no proper part of them; all choices are tried."""
    found = [some for many in range(len(parts) + 1) for some in itertools.combinations(parts, many) if holds(some)]
    return tuple(some for some in found if not any(set(other) < set(some) for other in found))


class LeastMends(unittest.TestCase):
    """[32]."""

    def test_a_right_book(self):
        for name, book in RIGHT.items():
            with self.subTest(name=name):
                self.assertEqual(least_mends(book), ((),))

    def test_nothing_mends_it(self):
        for name, book in HOPELESS.items():
            with self.subTest(name=name):
                self.assertEqual(least_mends(book), ())

    def test_one_two_and_more(self):
        for factors, told in (((1, 1, 1, -1), ((2,),)), ((0, 1, -1, -1), ((0,),)), ((1, 5, 5, -1), ((1, 2),)),
                              ((0, 0, 0, -1), ((0, 1, 2),)), ((0, 0, 0, 0), ((0, 1, 2, 3),)),
                              ((1, 2, -1, 3), ((1, 3),)), ((1, 1, -1, -1), ((),))):
            with self.subTest(factors=factors):
                self.assertEqual(least_mends(sets_of(*factors)), told)

    def test_several_least_ones_in_their_order(self):
        self.assertEqual(least_mends(SAME), ((0,), (1,)))
        text = "on come ; add 1 new sum new ; add 1 new sum new ; add {} new sum new ; add 1 one sum new ; add {} one sum old"
        self.assertEqual(least_mends(book_of(SUM, text.format(1, -1))), ((0,), (1,), (2,)))
        self.assertEqual(least_mends(book_of(SUM, text.format(-1, 0))), ((3,), (4,)))
        self.assertEqual(least_mends(book_of(SUM, text.format(0, 0))),
                         ((0, 3), (0, 4), (1, 3), (1, 4), (2, 3), (2, 4)))

    def test_shorter_ones_first(self):
        # The last statement does by itself what takes the first two otherwise.
        rows = "on come ; if new below 5 ; add {} new sum new ; else ; add {} new sum new ; end ; add {} new sum new"
        self.assertEqual(least_mends(book_of(SUM, rows.format(0, 0, 0))), ((2,), (0, 1)))
        self.assertEqual(least_mends(book_of(SUM, rows.format(1, 0, 0))), ((1,), (0, 2)))
        self.assertEqual(least_mends(book_of(SUM, rows.format(2, 0, 0))), ((0, 1), (0, 2), (1, 2)))

    def test_only_integers_mend(self):
        text = ("rest open ; total sum ; worth sum open 6 one from 6 below 7 ; event come none to open amount group",
                "on come ; if not new below 6 ; if new below 7 ; add {} new sum new ; add {} one sum new ; end ; end")
        self.assertEqual(least_mends(book_of(text[0], text[1].format(0, 0))), ((0,), (1,)))
        self.assertEqual(least_mends(book_of(text[0], text[1].format(0, 5))), ((1,),))
        self.assertEqual(least_mends(book_of(text[0], text[1].format(5, 6))), ((0,), (1,)))

    def test_by_all_sets(self):
        for book in small_books():
            with self.subTest(book=str(book)):
                told = least_mends(book)
                self.assertEqual(told, least_of(range(len(book)), lambda some: can_be_right(book, some, book.factors)))
                for numbers in told:
                    self.assertIs(type(numbers), tuple)
                self.assertIs(type(told), tuple)


class Mended(unittest.TestCase):
    """[32]."""

    def assert_mended(self, book, numbers):
        text, given = str(book), list(numbers)
        other = mended(book, numbers)
        self.assertEqual((str(book), list(numbers)), (text, given))
        self.assertIsInstance(other, Book)
        self.assertIs(is_right(other), True)
        self.assertEqual(other.with_factors(book.factors), book)
        for at in range(len(book)):
            if at not in numbers:
                self.assertEqual(other.factors[at], book.factors[at])
        return other

    def test_by_hand(self):
        self.assertEqual(self.assert_mended(sets_of(1, 1, 1, -1), [2]).factors, (1, 1, -1, -1))
        self.assertEqual(self.assert_mended(sets_of(1, 1, 999, -1), (2,)).factors, (1, 1, -1, -1))
        self.assertEqual(self.assert_mended(sets_of(-999, 1, 999, -1), (2, 0)).factors, (1, 1, -1, -1))
        for numbers in ([0], [1], [0, 1], [0, 2], [1, 2], [0, 1, 2]):
            factors = self.assert_mended(SAME, numbers).factors
            self.assertEqual(factors[0] + factors[1], 1)

    def test_none(self):
        for numbers in ([], (), [0], [1], (3,), [0, 1, 3], [3, 1, 0, 0]):
            self.assertIsNone(mended(sets_of(1, 1, 1, -1), numbers))
        self.assertIsNone(mended(SAME, []))
        self.assertIsNone(mended(SAME, [2]))
        for book in HOPELESS.values():
            self.assertIsNone(mended(book, list(range(len(book)))))

    def test_a_right_book_needs_no_statement(self):
        for book in RIGHT.values():
            self.assertEqual(self.assert_mended(book, []), book)
            self.assertEqual(self.assert_mended(book, ()), book)
            self.assert_mended(book, list(range(len(book))))

    def test_in_any_order_and_twice(self):
        book = sets_of(3, 4, 5, 6)
        for numbers in itertools.permutations(range(4)):
            self.assertEqual(self.assert_mended(book, numbers).factors, (1, 1, -1, -1))
            self.assertEqual(self.assert_mended(book, list(numbers) * 2).factors, (1, 1, -1, -1))
        self.assertIsNone(mended(book, [0, 1, 2, 2, 1, 0]))

    def test_by_all_sets(self):
        for book in small_books():
            with self.subTest(book=str(book)):
                for many in range(len(book) + 1):
                    for numbers in itertools.combinations(range(len(book)), many):
                        if can_be_right(book, numbers, book.factors):
                            self.assert_mended(book, numbers)
                        else:
                            self.assertIsNone(mended(book, numbers))

    def test_no_statement(self):
        for numbers, told in (([4], 4), ([-1], -1), ((0, 1, 9), 9), ((0, -5, 9), -5), ([2, 4, -1], 4), ([10 ** 9], 10 ** 9),
                              ([0, 0, 4], 4), ((3, -4), -4)):
            for book in (sets_of(1, 1, 1, -1), Book.read(PLAIN), sets_of(0, 0, 0, 0)):
                with self.subTest(numbers=numbers):
                    self.assertEqual(raised(mended, book, numbers), ("NoStatement", told))
        for book in HOPELESS.values():
            self.assertEqual(raised(mended, book, [0, len(book)]), ("NoStatement", len(book)))


class LeastEnough(unittest.TestCase):
    """[33]."""

    def test_by_hand(self):
        self.assertEqual(least_enough(Book.read(PLAIN)), ((0, 1, 2, 3),))
        self.assertEqual(least_enough(sets_of(9, 9, 9, 9)), ((0, 1, 2, 3),))
        self.assertEqual(least_enough(SAME), ((0,), (1,)))
        self.assertEqual(least_enough(book_of(SUM, "on come ; if new below 5 ; add 0 new sum new ; else",
                                              "add 0 new sum new ; end ; add 1 new sum new")), ((2,), (0, 1)))

    def test_worths_that_are_0(self):
        self.assertEqual(least_enough(RIGHT["worth nothing"]), ((),))
        self.assertEqual(least_enough(RIGHT["never comes"]), ((),))
        self.assertEqual(least_enough(book_of(PLAY, "on come ; add 5 new sum new")), ((),))

    def test_nothing_is(self):
        for name, book in HOPELESS.items():
            with self.subTest(name=name):
                self.assertEqual(least_enough(book), ())

    def test_by_all_sets(self):
        for book in small_books():
            with self.subTest(book=str(book)):
                zeros = (0,) * len(book)
                told = least_enough(book)
                self.assertEqual(told, least_of(range(len(book)), lambda some: can_be_right(book, some, zeros)))
                self.assertEqual(told, least_mends(book.with_factors(zeros)))


def wrong_within(book, most):
    """Whether some life of at most so many deeds is off."""
    return any(life.at_rest and life.off(total, watched) for _, life in lives_of(book, most)
               for watched in watched_in(life) for total in book.totals)


class Blamed(unittest.TestCase):
    """[34]."""

    def test_by_hand(self):
        self.assertEqual(blamed(sets_of(1, 1, 1, -1)), (("come",), ("set",)))
        self.assertEqual(blamed(sets_of(1, 1, -1, 1)), (("come",), ("go",)))
        self.assertEqual(blamed(sets_of(1, 1, 1, 1)), (("come",), ("go", "set")))
        self.assertEqual(blamed(sets_of(2, 1, -1, -1)), (("come",),))

    def test_a_right_book(self):
        for name, book in RIGHT.items():
            with self.subTest(name=name):
                self.assertEqual(blamed(book), ((),))

    def test_no_set_helps_that_leaves_an_event(self):
        self.assertEqual(blamed(book_of(SUM, "on come ; add 2 new sum new")), ())
        self.assertEqual(blamed(book_of(MANY, "event two none to open amount group ; on come ; add 2 one many new")), ())
        # Without `two` it is wrong, without `come`, too; without both no event is left.
        self.assertEqual(blamed(book_of(MANY, "event two none to open amount group ; on two ; add 1 one many noted")), ())

    def test_events_without_which_the_kinds_that_rest_are_not_reached(self):
        text = "rest open ; pass way ; total sum ; worth sum open 1 one ; event come none to way amount group"
        book = book_of(text, "event a way to way ; event b way to open ; on b ; add 2 one sum new")
        self.assertEqual(blamed(book), (("b",), ("come",)))
        book = book_of(text, "event a way to open ; event b way to open ; on a ; add 2 one sum new")
        self.assertEqual(blamed(book), (("come",), ("a", "b")))
        book = book_of(text, "event a way to open ; event b way to open ; on a ; add 1 one sum new")
        self.assertEqual(blamed(book), (("b",), ("come",)))

    def test_names_and_sets_are_in_order(self):
        text = "event z open to open ; event a open to open ; event m open to open ; on come ; add 1 one many new"
        rows = "on z ; add 1 one many new ; on a ; add 2 one many new ; on m ; add -3 one many new"
        self.assertEqual(blamed(book_of(MANY, text, rows)), (("come",), ("a", "m", "z")))

    def test_a_book_that_is_left_without_statements(self):
        # It is right just if no worth can come.
        book = book_of("rest open ; rest paid ; total many ; worth many paid 1 one ; event come none to open amount group",
                       "event pay open to paid ; event hold open to open ; on hold ; add 1 one many new",
                       "on pay ; add 1 one many new")
        self.assertEqual(blamed(book), (("come",), ("hold",)))
        book = book_of("rest open ; rest paid ; total many ; worth many paid 1 one ; event come none to open amount group",
                       "event pay open to paid ; event hold open to open ; on hold ; add 1 one many new")
        self.assertEqual(blamed(book), (("come",), ("hold", "pay")))
        self.assertEqual(blamed(book.barring(["pay"])), (("come",), ("hold",)))
        self.assertEqual(blamed(book_of(MANY, "event hold open to open ; on hold ; add 1 one many new")), (("come",),))

    def test_by_all_sets(self):
        for book in small_books():
            names = sorted(event.name for event in book.events)

            def right_without(some):
                """By the factors; where no statement is left, by lives."""
                if len(some) == len(names):
                    return False
                left = book.barring(some)
                return is_right(left) if len(left) else not wrong_within(left, 3)

            with self.subTest(book=str(book)):
                self.assertEqual(blamed(book), least_of(names, right_without))


class Idle(unittest.TestCase):
    """[34]."""

    def test_handlers_that_never_come(self):
        book = book_of("rest open ; rest paid ; total sum ; event come none to open amount group ; event set paid to open",
                       "on come ; add 1 one sum new ; on set ; add 1 one sum new ; add 1 old sum old")
        self.assertEqual(idle(book), (1, 2))
        self.assertEqual(idle(RIGHT["never comes"]), (0,))

    def test_tests_that_never_hold(self):
        book = book_of(PLAY, "on come ; if moved ; add 1 one sum new ; else ; add 1 one sum new ; end",
                       "if was none ; add 1 one sum new ; else ; add 1 one sum new ; end",
                       "if old below 0 ; add 1 one sum new ; end ; if noted ; add 1 one sum new ; end")
        self.assertEqual(idle(book), (0, 3, 4, 5))

    def test_a_noted_group_that_is_never_noted(self):
        book = book_of(PLAY, MOVE, "on come ; add 1 one sum noted ; on move ; add 1 one sum noted ; mark none")
        self.assertEqual(idle(book), (0, 1))
        book = book_of(PLAY, MOVE, "on come ; add 1 one sum noted ; on move ; add 1 one sum noted ; mark old")
        self.assertEqual(idle(book), (0,))

    def test_what_only_ever_adds_0(self):
        book = book_of("rest open ; total sum ; note n ; event come none to open amount group ; event go open to none",
                       "on come ; add 1 old sum new ; add 1 n sum new ; if new below 0 ; else ; if new below 1",
                       "add 1 new sum new ; end ; end ; on go ; add 1 new sum old ; add 1 old sum old ; add 1 n sum new")
        self.assertEqual(idle(book), (0, 1, 2, 3, 5))

    def test_where_no_rest_follows(self):
        book = book_of("rest open ; pass way ; pass lost ; total sum ; event come none to way amount group",
                       "event end way to open ; event lose way to lost ; on come ; add 1 one sum new ; on end",
                       "add 1 one sum new ; on lose ; add 1 one sum new")
        self.assertEqual(idle(book), (2,))

    def test_only_in_a_group_that_was_left(self):
        book = book_of(PLAY, MOVE, "on come ; mark new ; on move ; if not noted ; add 1 one sum old ; add 1 one sum noted",
                       "end ; if noted ; if moved ; add 1 one sum old ; end ; add 1 one sum noted ; end")
        self.assertEqual(idle(book), ())

    def test_only_behind_a_record_that_is_gone(self):
        book = book_of("rest open ; pass way ; total sum ; event come none to way amount group ; event go way to none",
                       "on come ; add 1 one sum new ; on go ; add 1 new sum old ; add 1 one sum old")
        self.assertEqual(idle(book), (1,))

    def test_factors_do_not_matter(self):
        for book in small_books():
            self.assertEqual(idle(book), idle(book.with_factors([0] * len(book))))

    def test_each_off_stays(self):
        for book in small_books():
            told = idle(book)
            lives = [deeds for deeds, life in lives_of(book, 2) if life.at_rest]
            for at in range(len(book)):
                other = book.with_factors([factor + 7 * (at == place) for place, factor in enumerate(book.factors)])
                moved = [deeds for deeds in lives for watched in ("a", "b", "zz") for total in book.totals
                         if run_life(book, deeds).off(total, watched) != run_life(other, deeds).off(total, watched)]
                if at in told:
                    self.assertEqual(moved, [], (str(book), at))

    def test_all_others_are_not(self):
        # A statement that does matter lets no factor but one be right, where there are right ones.
        for book in small_books():
            right = right_factors(book)
            units = [tuple(int(at == place) for at in range(len(book))) for place in range(len(book))]
            if right:
                told = tuple(at for at, unit in enumerate(units) if unit in Factors(len(book), (0,) * len(book), right.basis))
                self.assertEqual(idle(book), told)


class Bare(unittest.TestCase):
    """[30]: Mismatch, ahead of everything else, for a book without statements."""

    def test_mismatch(self):
        for call in (least_mends, least_enough, blamed, idle):
            self.assertEqual(raised(call, BARE), ("Mismatch",))
        for numbers in ([], [0], [-1], (5,), *NO_SEQUENCES):
            self.assertEqual(raised(mended, BARE, numbers), ("Mismatch",))


if __name__ == "__main__":
    unittest.main()
