"""[36] to [39]: tables that show that books are right, and weights that show that none can be."""

import itertools
import random
import unittest

from sumlives.books import Book
from sumlives.deciding import is_right, right_factors
from sumlives.lives import run_life
from sumlives.papers import contradiction, paper, paper_holds, weights, weights_hold
from sumlives.standings import standings
from sumlives.systems import Factors
from tests.drawn import amounts_of, drawn_book, drawn_deeds
from tests.helpers import NO_INTEGERS, NO_NAMES, PLAIN, raised
from tests.tables import Reading, table_is_right, weights_are_right
from tests.texts import GREAT, HOPELESS, MANY, PLAY, RIGHT, SUM, WRONG, book_of

BARE = book_of(SUM)
MOVE = "event move open to open group"
GONE = ("none", 0, False, "none")
ALL = [*RIGHT.values(), *[book for book, _ in WRONG.values()], *HOPELESS.values(), Book.read(PLAIN), GREAT]
DEEP = ((((((((),),),),),),),)
NO_TABLES = [None, True, False, 0, 1, "", "open", [], [[]], (None,), (0,), ("",), ((),), ([],), ((), ()), DEEP, [DEEP],
             ((), (((),),)), (True,), (1, 2), ("ab", "cd")]


def drawn_right(many, **parts):
    """Right books that are drawn."""
    found = []
    for seed in itertools.count():
        book = drawn_book(seed, kinds=1 + seed % 2, notes=seed % 2, cuts=seed // 2 % 3, totals=1 + seed % 2,
                          statements=2 + seed % 3, **parts)
        right = right_factors(book)
        if right:
            point = right.point
            for at, row in enumerate(right.basis):
                point = tuple(a + (at % 3 - 1) * b for a, b in zip(point, row))
            found.append(book.with_factors(point))
        if len(found) == many:
            return found


def replaced(table, at, entry):
    """A table with another entry at a place."""
    return (*table[:at], entry, *table[at + 1:])


def changed(rng, book, table):
    """A table in which something is otherwise."""
    at = rng.randrange(len(table))
    standing, forms = table[at]
    place = rng.randrange(len(forms) + 1)
    width = len(table[0][1][0]) if table[0][1] else Reading(str(book)).width
    drawn = tuple(rng.choice([0, 0, 0, 1, -1, 2]) for _ in range(width))
    form = forms[place % len(forms)] if forms else drawn
    other = table[rng.randrange(len(table))]
    ways = [
        table[:at] + table[at + 1:],
        (*table, other),
        replaced(table, at, (standing, forms[:place] + forms[place + 1:])),
        replaced(table, at, (standing, (*forms, drawn))),
        replaced(table, at, (standing, (*forms, *other[1]))),
        replaced(table, at, (standing, other[1])),
        replaced(table, at, (other[0], forms)),
        replaced(table, at, (standing, forms[:place] + (tuple(-2 * number for number in form),) + forms[place + 1:])),
        replaced(table, at, (standing, forms[:place] + (tuple(a + b for a, b in zip(form, drawn)),) + forms[place + 1:])),
        (*table, ((*standing[:2], not standing[2], standing[3]), forms)),
        (*table, ((standing[0], rng.randrange(len(book.cuts) + 1), rng.random() < 0.5, rng.choice(["none", "own", "away"])),
                  (*forms, (1, *[0] * (width - 1))))),
        replaced(table, at, (standing, ((1, *[0] * (width - 1)),))),
    ]
    return rng.choice(ways)


def is_put_together(book, table):
    """Whether the standings of a table are some, as changes may leave none."""
    for (kind, cut, own, noted), _ in table:
        if kind == "none" and (cut, own, noted) != (0, False, "none"):
            return False
        if noted == "seen" and own:
            return False
    return True


class Papers(unittest.TestCase):
    """[36], [37]: tables of right books."""

    def test_just_right_books_have_one(self):
        for book in ALL:
            with self.subTest(book=str(book)):
                told = paper(book)
                self.assertIs(told is not None, is_right(book))
                if told is not None:
                    self.assertIs(type(told), tuple)
                    self.assertIs(paper_holds(book, told), True)
                    self.assertIs(table_is_right(str(book), told), True)
                    self.assertLessEqual(set(standings(book)), {standing for standing, _ in told})

    def test_drawn_books(self):
        for book in drawn_right(40, rows=9):
            with self.subTest(book=str(book)):
                told = paper(book)
                self.assertIs(paper_holds(book, told), True)
                self.assertIs(table_is_right(str(book), told), True)

    def test_a_table_of_one_book_for_another_one(self):
        for p, q in itertools.product(ALL, repeat=2):
            told = paper(p)
            if told is not None and p != q:
                width = Reading(str(q)).width
                kinds = {"none", *q.rests, *q.passes}
                fits = all(standing[0] in kinds and standing[1] <= len(q.cuts) and all(len(form) == width for form in forms)
                           for standing, forms in told)
                self.assertIs(paper_holds(q, told), fits and table_is_right(str(q), told))

    def test_wrong_books_have_none_whatever_is_tried(self):
        for p in drawn_right(25, rows=7):
            told = paper(p)
            for at in range(len(p)):
                factors = [factor + (at == place) for place, factor in enumerate(p.factors)]
                q = p.with_factors(factors)
                if not is_right(q):
                    self.assertIsNone(paper(q))
                    self.assertIs(paper_holds(q, told), False)

    def test_other_worths(self):
        text = str(RIGHT["sets and goes"])
        told = paper(Book.read(text))
        for worth in ("2 amount", "1 one", "0 amount", "1 amount from 0", "1 amount below 5", "-1 amount"):
            other = Book.read(text.replace("1 amount", worth, 1))
            self.assertIs(paper_holds(other, told), False)

    def test_changed_tables_of_books_against_the_document_told_a_second_time(self):
        rng = random.Random(3)
        seen = {True: 0, False: 0}
        for book in [*RIGHT.values(), *drawn_right(25, rows=9), Book.read(PLAIN)] * 2:
            told = paper(book)
            text = str(book)
            for _ in range(12):
                table = changed(rng, book, told) if told else ()
                if table and rng.random() < 0.3:
                    table = changed(rng, book, table)
                expected = is_put_together(book, table) and table_is_right(text, table)
                seen[expected] += 1
                with self.subTest(book=text, table=table):
                    self.assertIs(paper_holds(book, table), expected)
        self.assertGreater(min(seen.values()), 100)

    def test_the_greatest_table(self):
        told = paper(GREAT)
        self.assertEqual(len(told), 19)
        self.assertIs(paper_holds(GREAT, told), True)
        self.assertIs(paper_holds(GREAT, told[1:]), False)
        self.assertIs(paper_holds(GREAT.with_factors((-1, 1, 0, -1, 1, 1, -1, -1)), told), False)


class Tables(unittest.TestCase):
    """[36]: by hand."""

    BOOK = RIGHT["sets and goes"]
    IN, OUT = ("open", 0, True, "none"), ("open", 0, False, "none")
    TABLE = ((GONE, ((0, 1, 0), (0, 0, 1))), (OUT, ((0, 0, 1),)), (IN, ((0, 1, -1),)))

    def assert_holds(self, table, holds=True, book=None):
        book = self.BOOK if book is None else book
        with self.subTest(table=table):
            self.assertIs(paper_holds(book, table), holds)
            self.assertIs(table_is_right(str(book), table), holds)

    def test_entries_and_forms_in_any_order(self):
        for table in itertools.permutations(self.TABLE):
            self.assert_holds(table)
        (gone, forms), *others = self.TABLE
        self.assert_holds(((gone, forms[::-1]), *others))

    def test_forms_twice_of_zeros_of_sums_and_multiplied(self):
        for form in ((0, 1, -1), (0, 0, 0), (0, -3, 3), (0, 10 ** 9, -10 ** 9)):
            self.assert_holds(replaced(self.TABLE, 2, (self.IN, ((0, 1, -1), form))))
        for forms in (((0, 1, 1), (0, 0, 1)), ((0, 1, 1), (0, 1, -1)), ((0, 2, 0), (0, 0, 5)),
                      ((0, 1, 0), (0, 0, 1), (0, 1, 1), (0, 0, 0)), ((0, 0, 1),)):
            self.assert_holds(replaced(self.TABLE, 0, (GONE, forms)))
        self.assert_holds(replaced(self.TABLE, 2, (self.IN, ((0, 2, -2),))))

    def test_forms_left_out(self):
        self.assert_holds(replaced(self.TABLE, 2, (self.IN, ())), False)
        self.assert_holds(replaced(self.TABLE, 1, (self.OUT, ())), False)
        # That the amount is 0 where it is gone is not needed, that the totals are is asked.
        self.assert_holds(replaced(self.TABLE, 0, (GONE, ((0, 0, 1),))))
        self.assert_holds(replaced(self.TABLE, 0, (GONE, ((0, 1, 0),))), False)
        self.assert_holds(replaced(self.TABLE, 0, (GONE, ())), False)

    def test_forms_too_many(self):
        for form in ((0, 1, 0), (1, 0, 0), (1, -1, 0), (0, 0, 1), (0, 1, 1)):
            self.assert_holds(replaced(self.TABLE, 2, (self.IN, ((0, 1, -1), form))), False)
        self.assert_holds(replaced(self.TABLE, 1, (self.OUT, ((0, 0, 1), (0, 1, 0)))), False)

    def test_entries_left_out_and_twice(self):
        for at in range(3):
            self.assert_holds(self.TABLE[:at] + self.TABLE[at + 1:], False)
            self.assert_holds((*self.TABLE, self.TABLE[at]), False)
            self.assert_holds((*self.TABLE, (self.TABLE[at][0], ((1, 0, 0),))), False)
        self.assert_holds((), False)

    def test_an_entry_for_a_standing_that_never_comes(self):
        noted = ("open", 0, True, "own")
        # It rests, and leads on to itself.
        self.assert_holds((*self.TABLE, (noted, ((0, 1, -1),))))
        self.assert_holds((*self.TABLE, (noted, ((0, 1, -1), (0, 1, 0)))), False)
        self.assert_holds((*self.TABLE, (noted, ())), False)
        # Where the record can move, what it leads on to is not there.
        self.assert_holds(self.TABLE, True, RIGHT["moves"])
        self.assert_holds((*self.TABLE, (noted, ((0, 1, -1),))), False, RIGHT["moves"])
        # Without events nothing is asked behind it.
        book = RIGHT["only comes"]
        table = self.TABLE[1:]
        self.assert_holds((*table, (noted, ((0, 1, -1),))), True, book)
        self.assert_holds((*table, (noted, ())), False, book)
        self.assert_holds((*table, (noted, ((0, 1, 0),))), False, book)
        self.assert_holds((*table, (GONE, ((0, 0, 1),))), True, book)
        self.assert_holds((*table, (GONE, ())), False, book)

    def test_a_standing_at_which_no_vector_fulfils_the_forms(self):
        book = RIGHT["only comes"]
        noted = ("open", 0, True, "own")
        for forms in (((1, 0, 0),), ((5, 0, 0),), ((0, 1, 0), (1, 1, 0)), ((2, 1, -1), (1, 1, -1))):
            self.assert_holds((*self.TABLE[1:], (noted, forms)), True, book)
            # Nothing is asked of the forms behind it, but the standings have to be there.
            self.assert_holds((*self.TABLE, (noted, forms)))
            self.assert_holds((*self.TABLE, (noted, forms)), False, RIGHT["moves"])
            self.assert_holds(replaced(self.TABLE[1:], 1, (self.IN, forms)), False, book)
        words = [(False, "own"), (False, "seen"), (False, "away"), (True, "own"), (True, "away")]
        noted = [(("open", 0, own, word), ((7, 0, 0), (0, 0, 1))) for own, word in words]
        self.assert_holds((*self.TABLE, *noted), True, RIGHT["moves"])
        for at in range(5):
            self.assert_holds((*self.TABLE, *noted[:at], *noted[at + 1:]), False, RIGHT["moves"])

    def test_one_alone_is_not_0(self):
        for at in range(3):
            standing, forms = self.TABLE[at]
            self.assert_holds(replaced(self.TABLE, at, (standing, (*forms, (1, 0, 0)))), False)
            self.assert_holds(replaced(self.TABLE, at, (standing, (*forms, (-3, 0, 0)))), False)

    def test_a_record_that_never_comes(self):
        book = RIGHT["never comes"]
        self.assert_holds((), True, book)
        self.assert_holds(paper(book), True, book)
        self.assert_holds(((self.IN, ()),), False, book)
        self.assert_holds(((self.IN, ((1, 0, 0),)),), True, book)

    def test_a_book_in_which_records_only_set(self):
        # At a standing that never comes all vectors are possible that fulfil the forms.
        book = RIGHT["never comes"].with_factors((0,))
        self.assert_holds(((self.IN, ((1, 0, -1),)),), True, book)
        self.assert_holds(((self.IN, ((1, 0, -1), (0, 1, 0))),), False, book)
        self.assert_holds(((self.IN, ((1, 0, -1), (1, 0, 0))),), True, book)

    def test_totals_where_a_record_is_gone(self):
        text = (PLAY, "event go open to none ; on come ; add 1 one sum new ; on go ; add {} one sum old")
        table = ((GONE, ((1, 0, -1),)), (self.OUT, ((0, 0, 1),)), (self.IN, ((1, 0, -1),)))
        book = book_of(MANY, text[1].format(0).replace(" sum ", " many "))
        self.assert_holds(table, False, book)
        # The table tells nothing of what is kept where it is gone.
        self.assert_holds(replaced(table, 0, (GONE, ())), False, book)

    def test_a_record_that_comes_again(self):
        # Its notes are 0 then, whatever they were; a note that stays would break this.
        book = book_of("rest open ; total sum ; note n ; event come none to open amount group ; event go open to none",
                       "on come ; add 3 n sum new ; put n new ; on go ; put n one")
        table = ((GONE, ((0, 0, 0, 1),)), (self.OUT, ((0, 0, 0, 1),)), (self.IN, ((0, 0, 0, 1), (0, 1, -1, 0))))
        self.assert_holds(table, True, book)
        self.assert_holds(replaced(table, 0, (GONE, ((0, 0, 1, 0), (0, 0, 0, 1), (0, 1, 0, 0)))), True, book)
        self.assert_holds(replaced(table, 0, (GONE, ((1, 0, -1, 0), (0, 0, 0, 1)))), False, book)

    def test_a_class_of_one_amount(self):
        rows = "on come ; if not new below 5 ; if new below 6 ; add {} sum new ; end ; end"
        text = "rest open ; total sum ; worth sum open 5 one from 5 below 6 ; event come none to open amount group"
        for row in ("1 new", "5 one"):
            book = book_of(text, rows.format(row))
            table = tuple((("open", cut, own, "none"), ((5, 0, -1),) if own and cut == 1 else ((0, 0, 1),))
                          for cut in range(3) for own in (False, True))
            self.assert_holds(table, True, book)
            at = table.index((("open", 1, True, "none"), ((5, 0, -1),)))
            # The worth is told by the class, and the amount is 5 there, though (5, -1, 0) need not be told.
            self.assert_holds(replaced(table, at, (table[at][0], ((5, 0, -1), (5, -1, 0)))), True, book)
            self.assert_holds(replaced(table, at, (table[at][0], ((0, 1, -1), (5, -1, 0)))), True, book)
            self.assert_holds(replaced(table, at, (table[at][0], ((0, 1, -1),))), False, book)
            self.assert_holds(replaced(table, at, (table[at][0], ((6, 0, -1),))), False, book)
            wide = replaced(table, 0, (table[0][0], ((5, -1, 0), (0, 0, 1))))
            self.assert_holds(wide, False, book)

    def test_amounts_are_any_rational_numbers_before_and_integers_of_the_class_behind(self):
        # An amount that stays is not bound to its class before: 0 times it is not what it is worth.
        text = "rest open ; pass way ; total sum ; worth sum open 3 one from 3 below 4 ; event come none to way amount group"
        book = book_of(text, "event end way to open ; on end ; if not old below 3 ; if old below 4 ; add 1 old sum new ; end",
                       "end")
        ways = [(("way", cut, own, "none"), ((0, 0, 1),)) for cut in range(3) for own in (False, True)]
        ends = [(("open", cut, own, "none"), ((3, 0, -1),) if own and cut == 1 else ((0, 0, 1),))
                for cut in range(3) for own in (False, True)]
        self.assert_holds((*ways, *ends), False, book)
        at = [standing for standing, _ in ways].index(("way", 1, True, "none"))
        ways[at] = (ways[at][0], ((0, 0, 1), (3, -1, 0)))
        self.assert_holds((*ways, *ends), True, book)

    def test_own_seen_away_and_none_with_each_choice_of_a_new_group(self):
        # What is added where the first mark is must be told by where it is.
        book = book_of(PLAY, MOVE, "on come ; mark new ; on move ; add 2 one sum noted ; add -2 one sum new",
                       "add -1 one sum noted ; if noted ; add 1 one sum old ; end ; add 1 one sum new ; mark new")
        told = [("open", 0, own, "own") for own in (False, True)]
        table = tuple((standing, ((0, 0, 1),)) for standing in told)
        self.assert_holds(table, False, book)
        stays = book_of(PLAY, MOVE, "on come ; mark new ; on move ; if noted ; add 1 one sum noted ; add -1 one sum new ; end")
        told = [("open", 0, False, word) for word in ("away", "own", "seen")]
        told += [("open", 0, True, word) for word in ("away", "own")]
        table = tuple((standing, ((0, 0, 1),)) for standing in told)
        self.assert_holds(table, True, stays)
        for at in range(len(table)):
            self.assert_holds(table[:at] + table[at + 1:], False, stays)
        # Without the test it comes to be wrong just where the noted group is another one than the new one.
        moved = book_of(PLAY, MOVE, "on come ; mark new ; on move ; add 1 one sum noted ; add -1 one sum new")
        self.assert_holds(table, False, moved)

    def test_another_group_that_is_neither_noted_nor_watched_nor_its_own(self):
        rows = "on come ; mark new ; on move ; if moved ; if not noted ; mark none ; end ; end"
        book = book_of(PLAY, MOVE, rows + " ; add 0 one sum new")
        told = [("open", 0, own, word) for own in (False, True) for word in ("none", "own")]
        table = tuple((standing, ((0, 0, 1),)) for standing in told)
        self.assert_holds(table, True, book)
        for at in range(len(table)):
            self.assert_holds(table[:at] + table[at + 1:], False, book)

    def test_the_class_stays_where_no_amount_is_brought(self):
        book = RIGHT["two totals"]
        told = paper(book)
        self.assert_holds(told, True, book)
        for at in range(len(told)):
            self.assert_holds(told[:at] + told[at + 1:], False, book)


class NoTables(unittest.TestCase):
    """[37]: what is no table is answered False, whatever it is."""

    BOOK = RIGHT["a note and a mark"]

    def assert_none(self, value, book=None):
        with self.subTest(value=value):
            self.assertIs(paper_holds(self.BOOK if book is None else book, value), False)

    def test_any_values(self):
        for book in (self.BOOK, RIGHT["never comes"], HOPELESS["a half"]):
            for value in NO_TABLES:
                self.assert_none(value, book)

    def test_lists_in_any_place(self):
        told = paper(self.BOOK)
        self.assert_none(list(told))
        standing, forms = told[0]
        for entry in (list(told[0]), (list(standing), forms), (standing, list(forms)),
                      (standing, ([*forms[0]], *forms[1:])), (standing, forms, ()), (standing,), (forms, standing), standing,
                      forms, (standing, forms[0]), (standing, (forms,)), (standing, None), (None, forms), (standing, ()) * 2):
            for place in range(len(told)):
                self.assert_none(replaced(told, place, entry))
            self.assert_none((*told, entry))

    def test_bools_and_integers_the_wrong_way_about(self):
        book = RIGHT["a cut"]
        told = paper(book)
        for at, (standing, forms) in enumerate(told):
            kind, cut, own, noted = standing
            for other in ((kind, bool(cut), own, noted), (kind, cut, int(own), noted), (kind, own, cut, noted)):
                self.assert_none(replaced(told, at, (other, forms)), book)
        for at, (standing, forms) in enumerate(told):
            for place, form in enumerate(forms):
                for where, number in enumerate(form):
                    if number in (0, 1):
                        other = replaced(forms, place, (*form[:where], bool(number), *form[where + 1:]))
                        self.assert_none(replaced(told, at, (standing, other)), book)

    def test_other_widths(self):
        told = paper(self.BOOK)
        for at, (standing, forms) in enumerate(told):
            for form in ((), (0,), (0,) * 3, (0,) * 5, (0,) * 12):
                self.assert_none(replaced(told, at, (standing, (*forms, form))))
            for wrong in NO_INTEGERS:
                self.assert_none(replaced(told, at, (standing, (*forms, (0, 0, 0, wrong)))))

    def test_kinds_and_classes_that_are_none(self):
        told = paper(self.BOOK)
        extra = ((1, 0, 0, 0),)
        for standing in (("paid", 0, True, "none"), ("", 0, True, "none"), (None, 0, True, "none"), ("open", 1, True, "none"),
                         ("open", -1, True, "none"), ("open", None, True, "none"), ("open", "0", True, "none"),
                         ("open", 10 ** 9, True, "none"), ("open", 0, None, "none"), ("open", 0, "own", "none"),
                         ("open", 0, True, None), ("open", 0, True, "other"), ("open", 0, True, ""), ("open", 0, True, "way"),
                         ("open", 0, True), ("open", 0, True, "none", "none"), ("send", 0, True, "none")):
            self.assert_none((*told, (standing, extra)))

    def test_words_that_do_not_go_together(self):
        told = paper(self.BOOK)
        extra = ((1, 0, 0, 0),)
        for standing in (("open", 0, True, "seen"), ("way", 0, True, "seen"), ("none", 0, True, "none"),
                         ("none", 0, False, "own"), ("none", 0, False, "seen"), ("none", 0, False, "away"),
                         ("none", 1, False, "none"), ("none", 0, True, "own")):
            self.assert_none((*told, (standing, extra)))
        # One that goes together could stand there, if all that is behind it did, too.
        one = RIGHT["only comes"]
        self.assertIs(paper_holds(one, (*paper(one), (("open", 0, False, "seen"), ((1, 0, 0),)))), True)
        self.assertIs(paper_holds(one, (*paper(one), (("open", 0, True, "seen"), ((1, 0, 0),)))), False)

    def test_deep_values(self):
        told = paper(self.BOOK)
        for at, (standing, forms) in enumerate(told):
            for wrong in (DEEP, [DEEP], (standing, DEEP), (DEEP, forms), (standing, (DEEP,)), (standing, ((DEEP,) * 4,))):
                self.assert_none(replaced(told, at, wrong))


class Weights(unittest.TestCase):
    """[38], [39]."""

    def assert_weights(self, book):
        told = weights(book)
        with self.subTest(book=str(book)):
            self.assertIs(told is None, bool(right_factors(book)))
            if told is not None:
                self.assertIs(type(told), tuple)
                self.assertEqual({type(item) for item in told}, {tuple})
                self.assertEqual({type(item[2]) for item in told}, {tuple})
                self.assertIs(weights_hold(book, told), True)
                self.assertIs(weights_are_right(str(book), told), True)
        return told

    def test_just_where_there_are_no_right_factors(self):
        for book in ALL:
            self.assert_weights(book)
        for book in HOPELESS.values():
            self.assertIsNotNone(weights(book))

    def test_drawn_books(self):
        seen = {True: 0, False: 0}
        for seed in range(120):
            book = drawn_book(seed, kinds=1 + seed % 2, notes=seed % 2, cuts=seed % 3, totals=1 + seed % 2,
                              statements=1 + seed % 4, draw=(5, 6, 7, 12))
            seen[self.assert_weights(book) is None] += 1
        self.assertGreater(min(seen.values()), 5)

    def test_drawn_equations(self):
        rng = random.Random(8)
        seen = {"some": 0, "no integers": 0, "none at all": 0}
        for _ in range(1500):
            many = rng.randint(1, 4)
            most = rng.choice([2, 6, 60])
            rows = [tuple(rng.randint(-most, most) for _ in range(many + 1)) for _ in range(rng.randint(1, 4))]
            forms, rights = [row[:-1] for row in rows], [row[-1] for row in rows]
            some = Factors.solving(many, forms, rights)
            found = contradiction(rows, many)
            self.assertIs(found is None, bool(some))
            if some:
                seen["some"] += 1
                continue
            times, whole = found
            self.assertEqual((len(times), whole >= 1), (len(rows), True))
            totals = [sum(time * row[at] for time, row in zip(times, rows)) for at in range(many + 1)]
            self.assertEqual([total % whole for total in totals[:-1]], [0] * many)
            self.assertNotEqual(totals[-1] % whole, 0)
            seen["no integers" if any(totals[:-1]) else "none at all"] += 1
        self.assertGreater(min(seen.values()), 100)

    def test_other_factors_change_nothing(self):
        for book in HOPELESS.values():
            other = book.with_factors([5 - 3 * at for at in range(len(book))])
            self.assertIs(weights_hold(other, weights(book)), True)
            self.assertIs(weights_hold(book, weights(other)), True)

    def test_they_show_nothing_where_there_are_right_factors(self):
        rng = random.Random(2)
        for book in [*RIGHT.values(), *[book for book, _ in WRONG.values()]]:
            if right_factors(book):
                amounts = amounts_of(book)
                for _ in range(60):
                    lives = [drawn_deeds(rng, book, 4, amounts) for _ in range(3)]
                    items = tuple((rng.randint(-3, 3), rng.randint(1, 4), deeds, rng.choice(book.totals), rng.choice("ab"))
                                  for deeds in lives if run_life(book, deeds).at_rest)
                    self.assertIs(weights_hold(book, items), False)

    def test_drawn_items_against_the_document_told_a_second_time(self):
        rng = random.Random(4)
        seen = {True: 0, False: 0}
        for book in HOPELESS.values():
            amounts = amounts_of(book)
            for _ in range(300):
                items = list(weights(book)) if rng.random() < 0.5 else []
                for _ in range(rng.randint(0, 3)):
                    deeds = drawn_deeds(rng, book, 3, amounts)
                    if run_life(book, deeds).at_rest:
                        items.append((rng.randint(-4, 4), rng.choice([1, 2, 3, 4, 6, 12]), deeds, rng.choice(book.totals),
                                      rng.choice("abc")))
                rng.shuffle(items)
                expected = weights_are_right(str(book), items)
                seen[expected] += 1
                self.assertIs(weights_hold(book, tuple(items)), expected)
        self.assertGreater(min(seen.values()), 100)

    HALF = HOPELESS["a half"]
    COME = (("come", 2, "a"),)
    ITEM = (1, 2, COME, "sum", "a")

    def assert_holds(self, value, holds=True, book=None):
        with self.subTest(value=value):
            self.assertIs(weights_hold(self.HALF if book is None else book, value), holds)

    def test_by_hand(self):
        # Twice a factor should be 3: half of that is asked to be an integer.
        self.assert_holds((self.ITEM,))
        for part, whole, holds in ((1, 2, True), (3, 2, True), (-1, 2, True), (-7, 2, True), (2, 4, True), (5, 10, True),
                                   (1, 1, False), (2, 2, False), (0, 1, False), (0, 2, False), (1, 3, False), (1, 4, False),
                                   (1, 6, False), (10 ** 12 + 1, 2, True), (10 ** 12, 2, False)):
            self.assert_holds(((part, whole, self.COME, "sum", "a"),), holds)
        third = HOPELESS["a third"]
        for part, whole, holds in ((1, 6, True), (1, 3, True), (1, 2, False), (5, 6, True), (1, 12, False), (2, 3, True)):
            self.assert_holds(((part, whole, (("come", 6, "b"),), "sum", "b"),), holds, third)

    def test_halves_twice_and_left_out(self):
        quarter = (1, 4, self.COME, "sum", "a")
        self.assert_holds((quarter, quarter))
        self.assert_holds((quarter,), False)
        self.assert_holds((self.ITEM, self.ITEM), False)
        self.assert_holds((self.ITEM, self.ITEM, self.ITEM))
        self.assert_holds((quarter, (1, 4, (("come", 2, "b"),), "sum", "b")))
        self.assert_holds((quarter, (3, 4, self.COME, "sum", "a"), self.ITEM))
        self.assert_holds((), False)

    def test_items_in_another_order(self):
        book = HOPELESS["never taken away"]
        told = weights(book)
        self.assertGreater(len(told), 1)
        for items in itertools.permutations(told):
            self.assert_holds(items, True, book)
        for at in range(len(told)):
            self.assert_holds(told[:at] + told[at + 1:], weights_are_right(str(book), told[:at] + told[at + 1:]), book)

    def test_groups(self):
        self.assert_holds(((1, 2, self.COME, "sum", "b"),), False)
        self.assert_holds(((1, 2, self.COME, "sum", "zzzz"), self.ITEM))
        for group in NO_NAMES:
            self.assert_holds(((1, 2, self.COME, "sum", group),), False)
            self.assert_holds((self.ITEM, (1, 2, self.COME, "sum", group)), False)

    def test_totals(self):
        for total in (None, True, 0, "", "all", "come", "open", "Sum", ("sum",), ["sum"], DEEP):
            self.assert_holds(((1, 2, self.COME, total, "a"),), False)
            self.assert_holds((self.ITEM, (0, 1, self.COME, total, "a")), False)
        book = HOPELESS["one of two totals"]
        # A quarter of 4 times a factor is an integer, that of 1 is none; a statement of the other total is not asked.
        self.assert_holds(((1, 8, (("two", 4, "a"),), "many", "a"),), False, book)
        self.assert_holds(((1, 4, (("two", 4, "a"),), "many", "a"),), True, book)
        self.assert_holds(((1, 4, (("two", 4, "a"),), "sum", "a"),), False, book)
        self.assert_holds(((1, 4, (("two", 4, "a"),), "many", "a"), (1, 3, (("come", 3, "b"),), "sum", "b")), True, book)
        self.assert_holds(((1, 4, (("two", 4, "a"),), "many", "a"), (1, 3, (("come", 4, "b"),), "sum", "b")), False, book)

    def test_parts_and_wholes(self):
        for whole in (0, -1, -2, -4, *NO_INTEGERS):
            self.assert_holds(((1, whole, self.COME, "sum", "a"),), False)
            self.assert_holds((self.ITEM, (0, whole, self.COME, "sum", "a")), False)
        for part in NO_INTEGERS:
            self.assert_holds(((part, 2, self.COME, "sum", "a"),), False)
            self.assert_holds((self.ITEM, (part, 1, self.COME, "sum", "a")), False)

    def test_deeds(self):
        book = book_of("rest open ; pass way ; total sum ; worth sum open 1 one ; event come none to open amount group",
                       "event send open to way ; on come ; if moved ; add 1 one sum new ; end")
        good = (1, 2, (("come", 2, "a"),), "sum", "a")
        self.assert_holds((good,), True, book)
        for deeds in ([("come", 2, "a")], (["come", 2, "a"],), ("come", 2, "a"), (("come", 2, "a"), ("send", None, None)),
                      (("come", 2, "a"), ("come", 2, "a")), (("send", None, None),), (("come", None, "a"),),
                      (("come", True, "a"),), (("come", 2, "none"),), (("come", 2),), (("come", 2, "a", None),), None, "", 0,
                      True, ((),), (None,), DEEP, ((DEEP,) * 3,)):
            self.assert_holds(((1, 2, deeds, "sum", "a"),), False, book)
            self.assert_holds((good, (0, 1, deeds, "sum", "a")), False, book)
        # A life of no deeds rests, and is worth nothing.
        self.assert_holds((good, (1, 2, (), "sum", "a")), True, book)
        self.assert_holds(((1, 2, (), "sum", "a"),), False, book)

    def test_values_that_are_none(self):
        for value in [*NO_TABLES, [self.ITEM], (list(self.ITEM),), self.ITEM, (self.ITEM, None), (self.ITEM[:4],),
                      ((*self.ITEM, "a"),), ((self.ITEM,),), (self.ITEM, DEEP), (self.ITEM[::-1],)]:
            self.assert_holds(value, False)

    def test_lives_in_several_groups(self):
        # What is left behind in the older group cannot be put right: its worth is 0.
        book = book_of(SUM, MOVE, "on come ; add 1 new sum new ; on move ; add 1 old sum new")
        told = self.assert_weights(book)
        self.assertIsNotNone(told)
        self.assertGreater(len({deeds for _, _, deeds, _, _ in told}), 1)


class Bare(unittest.TestCase):
    """[30]: Mismatch, ahead of everything else, for a book without statements."""

    def test_mismatch(self):
        for call in (paper, weights):
            self.assertEqual(raised(call, BARE), ("Mismatch",))
        for value in (*NO_TABLES, (), paper(RIGHT["only comes"]), weights(HOPELESS["a half"])):
            for call in (paper_holds, weights_hold):
                self.assertEqual(raised(call, BARE, value), ("Mismatch",))


class Whole(unittest.TestCase):
    """[5], [39]: a paper just for right books, weights just where no factors are right."""

    def test_one_of_the_two_ways(self):
        for seed in range(60):
            book = drawn_book(seed, kinds=1 + seed % 3, notes=seed % 2, cuts=seed % 2, totals=1 + seed % 2)
            right = right_factors(book)
            self.assertIs(weights(book) is None, bool(right))
            self.assertIs(paper(book) is None, not is_right(book))
            if right:
                other = book.with_factors(right.point)
                self.assertIs(paper_holds(other, paper(other)), True)


if __name__ == "__main__":
    unittest.main()
