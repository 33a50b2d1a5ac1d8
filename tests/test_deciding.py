"""[30], [31]: all right factors, whether a book is right, the divisors of errors, and shortest wrong lives."""

import math
import random
import unittest

from sumlives.books import Book
from sumlives.deciding import divisor, is_right, right_factors, wrong_life
from sumlives.lives import run_life
from sumlives.systems import Factors
from tests.drawn import amounts_of, drawn_book, drawn_deeds, lives_of, watched_in
from tests.helpers import NO_INTEGERS, NO_SEQUENCES, PLAIN, raised
from tests.texts import HOPELESS, MANY, PLAY, RIGHT, SUM, WRONG, book_of

BARE = book_of(SUM)
MOVE = "event move open to open group"
BOOKS = {**RIGHT, **{name: book for name, (book, _) in WRONG.items()}, **HOPELESS}
NO_TOTALS = [None, True, False, 0, 1, "", "Sum", "sum ", "su", "open", "come", ("sum",), ["sum"], (), [], [[["sum"]]]]


def equations(book, lives):
    """For each life that rests, each total and each group: the sums of the statements of the total, and the worth."""
    found = {}
    for life in lives:
        if life.at_rest:
            for watched in watched_in(life):
                for total in book.totals:
                    sums = zip(life.sums(watched), (book[at].total for at in range(len(book))))
                    row = tuple(number if own == total else 0 for number, own in sums)
                    found[row, life.worth(total, watched)] = True
    return list(found)


def offs(book, total, lives):
    """All that a total is off in lives that rest."""
    return [life.off(total, watched) for life in lives if life.at_rest for watched in watched_in(life)]


def off_anywhere(book, lives):
    return any(number for total in book.totals for number in offs(book, total, lives))


class RightFactors(unittest.TestCase):
    """[30]: by hand."""

    def assert_factors(self, book, text):
        self.assertEqual(str(right_factors(book)), text)

    def test_a_right_book(self):
        self.assert_factors(Book.read(PLAIN), "1 1 -1 -1")
        self.assertEqual(right_factors(Book.read(PLAIN)), Factors(4, (1, 1, -1, -1)))
        self.assert_factors(RIGHT["a note and a mark"], "2 -2 2 -2")

    def test_the_factors_of_the_book_do_not_matter(self):
        for factors in ((1, 1, 1, -1), (0, 0, 0, 0), (999, -999, 5, 7)):
            self.assert_factors(Book.read(PLAIN).with_factors(factors), "1 1 -1 -1")

    def test_two_statements_that_do_the_same(self):
        self.assert_factors(book_of(SUM, "on come ; add 4 new sum new ; add 7 new sum old"), "0 1 + 1 -1")
        self.assert_factors(book_of(SUM, "on come ; add 4 new sum new ; add 7 new sum old ; add 1 new sum new"),
                            "0 0 1 + 1 0 -1 + 0 1 -1")

    def test_no_right_factors(self):
        for name, book in HOPELESS.items():
            with self.subTest(name=name):
                self.assertEqual(right_factors(book), Factors(len(book)))

    def test_a_class_of_one_amount_decides_about_multiples(self):
        text = "rest open ; total sum ; worth sum open {} one from 6 below 7 ; event come none to open amount group"
        rows = "on come ; if not new below 6 ; if new below 7 ; add 1 new sum new ; end ; end"
        self.assert_factors(book_of(text.format(18), rows), "3")
        self.assert_factors(book_of(text.format(-6), rows), "-1")
        for factor in (1, 2, 3, 4, 5, 7, 9, -3):
            self.assert_factors(book_of(text.format(factor), rows), "none")
        both = rows.replace("add 1 new sum new", "add 1 new sum new ; add 1 one sum new")
        self.assert_factors(book_of(text.format(5), both), "0 5 + 1 -6")

    def test_all_factors(self):
        self.assertEqual(right_factors(book_of(PLAY, "on come ; add 1 new sum noted ; add 1 old sum new")),
                         Factors.every(2))
        self.assertEqual(right_factors(RIGHT["never comes"].with_factors((7,))), Factors.every(1))
        self.assert_factors(RIGHT["never comes"], "0 + 1")

    def test_all_but_one_are_told(self):
        self.assert_factors(book_of(SUM, MOVE, "on come ; add 1 new sum new ; add 5 one sum noted",
                                    "on move ; add 1 old sum new ; add -1 old sum old ; add 1 old sum noted"),
                            "1 0 1 -1 0 + 0 1 0 0 0 + 0 0 0 0 1")

    def test_two_totals_are_apart(self):
        text = ("rest open ; total sum ; total many ; worth sum open 1 amount ; worth many open 2 one ; "
                "event come none to open amount group")
        self.assert_factors(book_of(text, "on come ; add 9 new sum new ; add 9 one many new"), "1 2")
        # One statement cannot make up for one of the other total.
        self.assert_factors(book_of(text, "on come ; add 1 new sum new ; add 1 new many new"), "none")
        self.assert_factors(book_of(text, "on come ; add 1 new sum new ; add 1 one sum new"), "none")
        same = text.replace("many open 2 one", "many open 3 amount")
        self.assert_factors(book_of(same, "on come ; add 1 new sum new ; add 1 new many new"), "1 3")
        one = text.replace(" ; worth many open 2 one", "")
        self.assert_factors(book_of(one, "on come ; add 1 new sum new ; add 1 one many new"), "1 0")

    def test_worths(self):
        text = "rest open ; total sum ; {} ; event come none to open amount group ; on come ; add 1 new sum new"
        for worth, told in (("worth sum open 0 amount", "0"), ("worth sum open 0 one", "0"),
                            ("worth sum open 5 amount", "5"), ("worth sum open 5 one", "none"),
                            ("worth sum open -2 amount from 3", "none"),
                            ("worth sum open 3 amount from 7 ; worth sum open 3 amount below 7", "3"),
                            ("worth sum open 3 amount ; worth sum open 8 amount", "3"),
                            ("worth sum open 3 amount from 7 ; worth sum open 3 amount", "3"),
                            ("worth sum open 3 amount from 7 ; worth sum open 4 amount", "none")):
            with self.subTest(worth=worth):
                self.assert_factors(Book.read(text.format(worth).replace(" ; ", "\n")), told)

    def test_worths_of_a_class(self):
        text = "rest open ; total sum ; worth sum open 4 one from 3 below 9 ; event come none to open amount group"
        self.assert_factors(book_of(text, "on come ; if not new below 3 ; if new below 9 ; add 1 one sum new"
                                    " ; else ; add 1 new sum new ; end ; else ; add 1 one sum new ; end"), "4 0 0")
        # The older amount of a record that comes is 0, so it is below 3 whatever the newer one is.
        self.assert_factors(book_of(text, "on come ; if old below 3 ; add 1 one sum new ; end"), "none")

    def test_a_worth_that_no_record_has(self):
        text = "rest open ; rest paid ; total sum ; worth sum paid 7 amount ; event come none to open amount group"
        self.assert_factors(book_of(text, "on come ; add 1 new sum new"), "0")
        self.assert_factors(book_of(text, "event pay paid to open ; on pay ; add 1 old sum new"), "0 + 1")

    def test_kinds_on_their_way_are_not_asked(self):
        text = "rest open ; pass way ; total sum ; worth sum open 1 amount ; event come none to way amount group"
        self.assert_factors(book_of(text, "event end way to open ; on come ; add 1 new sum new ; on end ; add 1 old sum new"),
                            "0 1 + 1 -1")
        self.assert_factors(book_of(text, "on come ; add 1 new sum new"), "0 + 1")

    def test_what_is_kept_in_a_group_that_was_left(self):
        self.assert_factors(book_of(SUM, MOVE, "on come ; add 1 new sum new ; on move ; add 1 old sum old",
                                    "add 1 old sum new"), "1 -1 1")
        self.assert_factors(book_of(SUM, MOVE, "on come ; add 1 new sum new ; on move ; add 1 old sum new"), "none")

    def test_what_is_kept_behind_a_record_that_is_gone(self):
        self.assert_factors(book_of(MANY, "event go open to none ; on come ; add 1 one many new ; on go",
                                    "add 1 one many old ; add 1 one many new ; add 1 new many old"),
                            "1 0 -1 0 + 0 1 -1 0 + 0 0 0 1")
        self.assert_factors(book_of(MANY, "event go open to none ; on come ; add 1 one many new ; on go",
                                    "add 1 old many old"), "none")

    def test_notes_and_marks(self):
        text = "rest open ; pass way ; total sum ; note n ; worth sum open 1 amount ; event come none to way amount group"
        self.assert_factors(book_of(text, "event end way to open amount group ; on come ; put n new ; mark new",
                                    "on end ; add 1 n sum noted ; add 1 new sum new"), "0 1")
        self.assert_factors(book_of(text, "event end way to open ; on come ; put n new ; mark new",
                                    "on end ; add 1 n sum noted ; add 1 old sum old"), "0 1 + 1 -1")
        self.assert_factors(book_of(text, "event end way to open ; on come ; put n new ; mark none",
                                    "on end ; add 1 n sum noted ; add 1 old sum old"), "0 1 + 1 0")

    def test_the_first_mark_of_two(self):
        rows = "on move ; add -1 old sum noted ; add 1 old sum new ; mark new ; on come ; add 1 new sum new ; {}"
        self.assert_factors(book_of(SUM, MOVE, rows.format("mark new")), "-1 1 1")
        # Not noted as it comes, it can't be taken away with the first move.
        self.assert_factors(book_of(SUM, MOVE, rows.format("mark none")), "none")


class Drawn(unittest.TestCase):
    """[30]: against all short lives and many longer ones."""

    def assert_factors_of_lives(self, book, lives, whole):
        """Tests that no equation of a life breaks the factors, and, where these are all that is needed, the reverse."""
        told = right_factors(book)
        self.assertEqual(told.width, len(book))
        rows = equations(book, lives)
        solved = Factors.every(len(book))
        for row, right in rows:
            solved = solved & Factors.solving(len(book), [row], [right])
        self.assertLessEqual(told, solved)
        if whole:
            self.assertEqual(told, solved)

    def test_all_short_lives(self):
        for name, book in BOOKS.items():
            with self.subTest(name=name):
                self.assert_factors_of_lives(book, [life for _, life in lives_of(book, 3)], len(book.passes) == 0)

    def test_short_and_longer_lives_of_drawn_books(self):
        rng = random.Random(7)
        for seed in range(60):
            book = drawn_book(seed, kinds=1 + seed % 2, notes=seed % 2, cuts=seed // 2 % 2, totals=1 + seed % 2)
            amounts = amounts_of(book)
            lives = [life for _, life in lives_of(book, 2)]
            lives += [run_life(book, drawn_deeds(rng, book, 8, amounts)) for _ in range(300)]
            with self.subTest(seed=seed):
                self.assert_factors_of_lives(book, lives, True)

    def test_with_factors_of_the_set_nothing_is_off_and_with_others_something_is(self):
        rng = random.Random(9)
        for name, book in BOOKS.items():
            told = right_factors(book)
            lives = [life for _, life in lives_of(book, 3)]
            for _ in range(6):
                factors = [rng.randint(-3, 3) for _ in range(len(book))]
                if told and rng.random() < 0.6:
                    factors = list(told.point)
                    for row in told.basis:
                        times = rng.randint(-2, 2)
                        factors = [old + times * more for old, more in zip(factors, row)]
                other = book.with_factors(factors)
                right = tuple(factors) in told
                with self.subTest(name=name, factors=factors):
                    self.assertIs(is_right(other), right)
                    seen = [run_life(other, deeds) for deeds, _ in lives_of(other, 3)] if right else lives
                    if right:
                        self.assertFalse(off_anywhere(other, seen))
                    else:
                        deeds, total, group = wrong_life(other)
                        self.assertNotEqual(run_life(other, deeds).off(total, group), 0)


class IsRight(unittest.TestCase):
    """[31]."""

    def test_right_books_and_others(self):
        for name, book in RIGHT.items():
            with self.subTest(name=name):
                self.assertIs(is_right(book), True)
        for name, book in {**HOPELESS, **{name: book for name, (book, _) in WRONG.items()}}.items():
            with self.subTest(name=name):
                self.assertIs(is_right(book), False)

    def test_one_factor_that_is_wrong(self):
        for book in (Book.read(PLAIN), RIGHT["a note and a mark"], RIGHT["two cuts"], RIGHT["a cut"]):
            for at in range(len(book)):
                for more in (-2, -1, 1, 5):
                    factors = list(book.factors)
                    factors[at] += more
                    self.assertIs(is_right(book.with_factors(factors)), False)

    def test_just_where_the_factors_are_among_the_right_ones(self):
        for seed in range(80):
            book = drawn_book(seed, kinds=1 + seed % 3, notes=seed % 2, cuts=seed % 3, totals=1 + seed % 2,
                              statements=1 + seed % 4, factors=(0, 0, 1, -1, 2))
            with self.subTest(seed=seed):
                self.assertIs(is_right(book), book.factors in right_factors(book))
                self.assertIs(wrong_life(book) is None, is_right(book))
                self.assertIs(all(divisor(book, total) == 0 for total in book.totals), is_right(book))

    def test_a_difference_that_stays_between_two_totals(self):
        text = "rest open ; total a ; total b ; event come none to open amount group ; on come ; add {} one a new ; {}"
        self.assertIs(is_right(Book.read(text.format(1, "add -1 one b new").replace(" ; ", "\n"))), False)
        self.assertIs(is_right(Book.read(text.format(1, "add -1 one a new").replace(" ; ", "\n"))), True)


class Divisors(unittest.TestCase):
    """[31]."""

    def test_by_hand(self):
        rows = "event set open to open amount ; on come ; add {} new sum new ; on set ; add {} new sum new ; add {} old sum new"
        for factors, told in (((1, 1, -1), 0), ((2, 1, -1), 1), ((3, 1, -1), 2), ((1, 1, 1), 2), ((1, 4, -1), 3),
                              ((1, 4, 5), 3), ((7, 13, -25), 6), ((-5, -5, 5), 6)):
            with self.subTest(factors=factors):
                self.assertEqual(divisor(book_of(SUM, rows.format(*factors)), "sum"), told)

    def test_amounts_of_a_class(self):
        text = "rest open ; total sum ; event come none to open amount group ; event more open to open"
        rows = "on come ; if not new below {} ; if new below {} ; add 2 new sum new ; end ; end"
        self.assertEqual(divisor(book_of(text, rows.format(15, 16)), "sum"), 30)
        self.assertEqual(divisor(book_of(text, rows.format(15, 17)), "sum"), 2)
        self.assertEqual(divisor(book_of(text, rows.format(-9, -8)), "sum"), 18)
        self.assertEqual(divisor(book_of(text, rows.format(0, 1)), "sum"), 0)

    def test_two_totals_are_apart(self):
        book = book_of("rest open ; total a ; total b ; event come none to open amount group",
                       "on come ; add 6 one a new ; add 4 new a new ; add 9 new b new")
        self.assertEqual((divisor(book, "a"), divisor(book, "b")), (2, 9))
        book = book.with_factors((0, 0, 9))
        self.assertEqual((divisor(book, "a"), divisor(book, "b")), (0, 9))

    def test_errors_of_several_lives(self):
        # 6 where it comes to rest, 10 where it is gone, so nothing but 2 divides both.
        text = "rest open ; total sum ; event come none to open amount group ; event go open to none"
        self.assertEqual(divisor(book_of(text, "on come ; add 6 one sum new ; on go ; add 4 one sum old"), "sum"), 2)
        self.assertEqual(divisor(book_of(text, "on come ; add 6 one sum new ; on go ; add 9 one sum new"), "sum"), 3)
        self.assertEqual(divisor(book_of(text, "on come ; add 6 one sum new ; on go ; add -6 one sum old"), "sum"), 6)
        # Only what is left behind in a group counts here.
        self.assertEqual(divisor(book_of(PLAY, MOVE, "on move ; if moved ; add 35 one sum old ; end"), "sum"), 35)

    def test_a_note_and_the_worth(self):
        book = book_of("rest open ; total sum ; note n ; worth sum open 4 amount ; event come none to open amount group",
                       MOVE, "on come ; put n new ; on move ; add 10 n sum new")
        # Without a move 4 times the amount is missing; each move adds 10 times as much.
        self.assertEqual(divisor(book, "sum"), 2)

    def test_against_lives(self):
        rng = random.Random(11)
        for seed in range(60):
            book = drawn_book(seed, kinds=1 + seed % 2, notes=seed % 2, cuts=seed // 2 % 2, totals=1 + seed % 2,
                              factors=(-6, 4, 6, 10, 3))
            amounts = amounts_of(book)
            lives = [life for _, life in lives_of(book, 2)]
            lives += [run_life(book, drawn_deeds(rng, book, 8, amounts)) for _ in range(300)]
            for total in book.totals:
                with self.subTest(seed=seed, total=total):
                    self.assertEqual(divisor(book, total), math.gcd(*offs(book, total, lives)))

    def test_against_all_short_lives(self):
        for name, book in BOOKS.items():
            for total in book.totals:
                told = divisor(book, total)
                with self.subTest(name=name, total=total):
                    for number in offs(book, total, [life for _, life in lives_of(book, 3)]):
                        self.assertTrue(number == 0 if told == 0 else number % told == 0)

    def test_no_total(self):
        for value in NO_TOTALS:
            for book in (Book.read(PLAIN), HOPELESS["a half"]):
                with self.subTest(value=value):
                    self.assertEqual(raised(divisor, book, value), ("NoTotal", value))


class WrongLives(unittest.TestCase):
    """[31]."""

    def assert_shortest(self, book, most=None):
        """Tests the life that is told, and that no life with fewer deeds is off."""
        told = wrong_life(book)
        self.assertIs(type(told), tuple)
        deeds, total, group = told
        self.assertIs(type(deeds), tuple)
        for deed in deeds:
            self.assertIs(type(deed), tuple)
            self.assertEqual(len(deed), 3)
        life = run_life(book, deeds)
        self.assertIs(life.at_rest, True)
        self.assertNotEqual(life.off(total, group), 0)
        for shorter, life in lives_of(book, len(deeds) - 1, groups="abcd"):
            if life.at_rest:
                for watched in watched_in(life):
                    for name in book.totals:
                        self.assertEqual(life.off(name, watched), 0, (shorter, name, watched))
        if most is not None:
            self.assertEqual(len(deeds), most)

    def test_none_for_a_right_book(self):
        for name, book in RIGHT.items():
            with self.subTest(name=name):
                self.assertIsNone(wrong_life(book))

    def test_one_two_three_and_more_deeds(self):
        for name, (book, many) in WRONG.items():
            with self.subTest(name=name):
                self.assert_shortest(book, many)
        self.assertEqual({many for _, many in WRONG.values()}, {1, 2, 3, 5})

    def test_books_without_right_factors(self):
        for name, book in HOPELESS.items():
            with self.subTest(name=name):
                self.assert_shortest(book)

    def test_drawn_books(self):
        for seed in range(120):
            book = drawn_book(seed, kinds=1 + seed % 2, notes=seed % 2, cuts=seed // 2 % 2, totals=1 + seed % 2)
            if not is_right(book):
                with self.subTest(seed=seed):
                    self.assert_shortest(book)

    def test_amounts_at_a_cut_alone(self):
        rows = "on come ; add 1 new sum new ; if not new below {0} ; if new below {1} ; add 1 {2} sum new ; end ; end"
        for low, high in ((4, 5), (-7, -6), (0, 1), (999998, 999999)):
            book = book_of(SUM, rows.format(low, high, "one"))
            self.assert_shortest(book, 1)
            self.assertEqual(wrong_life(book)[0][0][1], low)
        self.assertIsNone(wrong_life(book_of(SUM, rows.format(0, 1, "new"))))

    def test_both_sides_of_a_cut(self):
        # Right, but for a step over the cut from above.
        book = book_of("rest open ; total many ; worth many open 1 one below 10 ; event come none to open amount group",
                       "event set open to open amount ; on come ; if new below 10 ; add 1 one many new ; end",
                       "on set ; if new below 10 ; if old below 11 ; else ; add 1 one many new ; end",
                       "else ; if old below 10 ; add -1 one many new ; end ; end")
        self.assert_shortest(book, 2)
        (_, older, _), (_, newer, _) = wrong_life(book)[0]
        self.assertEqual((older, newer < 10), (10, True))

    def test_a_group_that_was_left(self):
        book = book_of(SUM, "event move open to open group ; on come ; add 1 new sum new",
                       "on move ; if moved ; add 1 new sum new ; end")
        deeds, total, group = wrong_life(book)
        self.assertEqual((len(deeds), total), (2, "sum"))
        self.assertNotEqual(deeds[0][2], deeds[1][2])
        self.assertEqual(group, deeds[0][2])

    def test_the_total_that_is_off(self):
        text = ("rest open ; total a ; total b ; event come none to open amount group ; event set open to open amount ; "
                "on come ; add {} one a new ; add {} one b new ; on set ; add {} one a new ; add {} one b new")
        for factors, told, many in (((1, 0, 0, 0), "a", 1), ((0, 1, 0, 0), "b", 1), ((0, 0, 1, 0), "a", 2),
                                    ((0, 0, 0, 1), "b", 2), ((0, 1, 1, 0), "b", 1), ((1, 0, 0, 5), "a", 1)):
            book = Book.read(text.format(*factors).replace(" ; ", "\n"))
            self.assertEqual((wrong_life(book)[1], len(wrong_life(book)[0])), (told, many))

    def test_a_record_that_comes_again(self):
        # A record that comes is a new one. Only one that is gone was ever taken away, and just then it is noted.
        book = book_of("rest open ; pass way ; total sum ; event come none to open amount group ; event end open to way",
                       "event go way to none ; event late none to way amount group ; event stay way to open",
                       "on end ; mark new ; on stay ; if not noted ; add 1 one sum new ; end")
        self.assert_shortest(book, 2)
        right = book.with_factors((0,))
        self.assertIs(is_right(right), True)
        self.assertIsNone(wrong_life(right))

    def test_errors_that_take_each_other_away(self):
        # Off by 1 as it comes on its way, by 0 where it rests; the next event lets it be off for good.
        book = book_of("rest open ; pass way ; total sum ; event come none to way amount group ; event a way to open",
                       "event b open to open ; on come ; add 1 one sum new ; on a ; add -1 one sum new ; on b",
                       "add 1 old sum new")
        self.assert_shortest(book, 3)


class Bare(unittest.TestCase):
    """[30]: Mismatch, ahead of everything else, for a book without statements."""

    def test_mismatch(self):
        for book in (BARE, book_of(SUM, "on come ; mark new"), book_of("rest open ; total sum ; event go open to none")):
            for call in (right_factors, is_right, wrong_life):
                self.assertEqual(raised(call, book), ("Mismatch",))
        self.assertEqual(raised(divisor, BARE, "sum"), ("Mismatch",))

    def test_with_wrong_other_arguments(self):
        for value in [*NO_TOTALS, *NO_INTEGERS, *NO_SEQUENCES]:
            self.assertEqual(raised(divisor, BARE, value), ("Mismatch",))


if __name__ == "__main__":
    unittest.main()
