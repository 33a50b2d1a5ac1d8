"""[27], [28], [29]: standings, and the lattices of the vectors of all lives with one standing."""

import random
import unittest

from sumlives.books import Book
from sumlives.lattices import Lattice
from sumlives.lives import run_life
from sumlives.standings import spanned, standings
from tests.drawn import NEVER, amounts_of, drawn_book, drawn_deeds, lives_of, standing_of, vector_of, watched_in
from tests.helpers import PLAIN, raised
from tests.texts import HOPELESS, PLAY, RIGHT, SUM, WRONG, book_of

GONE = ("none", 0, False, "none")
MOVE = "event move open to open group"


def open_ones(*pairs):
    """Standings of the kind `open` in class 0."""
    return tuple(("open", 0, own, noted) for own, noted in pairs)


class ByHand(unittest.TestCase):
    """[27]: all standings of small books."""

    def test_a_record_that_never_comes(self):
        book = RIGHT["never comes"]
        self.assertEqual(standings(book), ())
        for standing in (GONE, *open_ones((True, "none"), (False, "none"))):
            self.assertEqual(raised(spanned, book, standing), ("Mismatch",))

    def test_a_record_that_only_comes(self):
        self.assertEqual(standings(book_of(SUM)), open_ones((False, "none"), (True, "none")))

    def test_a_record_that_goes(self):
        self.assertEqual(standings(book_of(SUM, "event go open to none")),
                         (GONE, *open_ones((False, "none"), (True, "none"))))

    def test_a_record_that_could_go_from_a_kind_that_never_comes(self):
        book = book_of("rest open ; rest paid ; total sum ; event come none to open amount group",
                       "event go paid to none ; event more paid to open")
        self.assertEqual(standings(book), open_ones((False, "none"), (True, "none")))

    def test_kinds_in_their_order(self):
        book = book_of("rest z ; rest a ; pass m ; total sum ; event come none to m amount group",
                       "event x m to z ; event y z to a")
        self.assertEqual(standings(book), tuple((kind, 0, own, "none") for kind in "amz" for own in (False, True)))

    def test_classes_of_cuts_in_tests_and_worths(self):
        classes = [(cut, own) for cut in range(3) for own in (False, True)]
        expected = tuple(("open", cut, own, "none") for cut, own in classes)
        tests = "on come ; if old below 7 ; end ; if not new below -2 ; end"
        for book in (book_of(PLAY, tests), book_of("rest open ; total sum ; worth sum open 1 one from -2 below 7",
                                                   "event come none to open amount group"),
                     # Just one amount is in the class between these two.
                     book_of(PLAY, "on come ; if new below 7 ; end ; if new below 8 ; end")):
            self.assertEqual(standings(book), expected)

    def test_the_class_stays_where_no_amount_is_brought(self):
        book = book_of("rest open ; rest paid ; total sum ; event come none to open amount group",
                       "event pay open to paid ; event go paid to none ; on pay ; if old below 4 ; end")
        self.assertEqual(standings(book), (GONE, *[(kind, cut, own, "none") for kind in ("open", "paid")
                                                   for cut in (0, 1) for own in (False, True)]))

    def test_groups_that_move(self):
        self.assertEqual(standings(book_of(PLAY, MOVE)), open_ones((False, "none"), (True, "none")))

    def test_a_mark_as_the_record_comes(self):
        for place in ("new", "old"):
            self.assertEqual(standings(book_of(PLAY, "on come ; mark " + place)),
                             open_ones((False, "own"), (True, "own")))
        self.assertEqual(standings(book_of(PLAY, "on come ; mark new ; mark none")),
                         open_ones((False, "none"), (True, "none")))

    def test_a_mark_ahead_of_a_move(self):
        self.assertEqual(standings(book_of(PLAY, MOVE, "on come ; mark new")),
                         open_ones((False, "away"), (False, "own"), (False, "seen"), (True, "away"), (True, "own")))

    def test_a_mark_with_a_move(self):
        # What is noted is the group behind the first of two moves, or ahead of it.
        self.assertEqual(standings(book_of(PLAY, MOVE, "on move ; mark new")),
                         open_ones((False, "none"), (False, "own"), (True, "none"), (True, "own")))
        self.assertEqual(standings(book_of(PLAY, MOVE, "on move ; mark old")),
                         open_ones((False, "away"), (False, "none"), (False, "own"), (False, "seen"),
                                   (True, "away"), (True, "none"), (True, "own")))

    def test_a_mark_only_where_the_record_moves(self):
        self.assertEqual(standings(book_of(PLAY, MOVE, "on move ; if moved ; mark old ; else ; mark none ; end")),
                         open_ones((False, "away"), (False, "none"), (False, "seen"), (True, "away"), (True, "none")))

    def test_a_mark_that_is_noted_already(self):
        # The mark is put away where the record comes back to it.
        self.assertEqual(standings(book_of(PLAY, MOVE, "on come ; mark new ; on move ; if noted ; mark none ; end")),
                         open_ones((False, "away"), (False, "none"), (False, "own"), (False, "seen"),
                                   (True, "away"), (True, "none"), (True, "own")))

    def test_a_mark_is_gone_with_its_record(self):
        book = book_of("rest open ; rest paid ; total sum ; event come none to open amount group",
                       "event set open to paid ; event go paid to none ; on set ; mark new ; on go ; mark old")
        self.assertEqual(standings(book), (
            GONE, ("open", 0, False, "none"), ("open", 0, True, "none"), ("paid", 0, False, "own"),
            ("paid", 0, True, "own")))

    def test_a_record_that_comes_again_is_a_new_one(self):
        # The second event can only happen to a record that is gone, and has no mark by then.
        book = book_of("rest open ; rest paid ; total sum ; event come none to open amount group",
                       "event go open to none ; event late none to paid amount group",
                       "on come ; mark new ; on late ; if noted ; mark new ; end")
        self.assertEqual(standings(book), (
            GONE, ("open", 0, False, "own"), ("open", 0, True, "own"), ("paid", 0, False, "none"),
            ("paid", 0, True, "none")))

    def test_the_older_amount_of_a_record_that_comes_is_0(self):
        rows = "on come ; if old below {} ; mark new ; end"
        for number, noted in ((0, "none"), (1, "own"), (-1, "none"), (5, "own")):
            told = {standing[3] for standing in standings(book_of(PLAY, rows.format(number)))}
            self.assertEqual(told, {noted})

    def test_tests_see_the_right_amounts(self):
        rows = "on set ; if old below 3 ; if not new below 3 ; mark new ; else ; mark none ; end ; else ; mark none ; end"
        book = book_of(PLAY, "event set open to open amount", rows)
        self.assertEqual({standing for standing in standings(book) if standing[3] == "own"},
                         {("open", 1, False, "own"), ("open", 1, True, "own")})

    def test_groups_that_are_all_unlike(self):
        # The second move is done only from a group that is not noted to one that is not noted either.
        book = book_of("rest a ; rest b ; total sum ; event come none to a amount group ; event move a b to b group",
                       "on move ; if was a ; mark old ; else ; if moved ; if not noted ; mark none ; end ; end ; end")
        self.assertEqual(standings(book)[2:], tuple(
            ("b", 0, own, noted) for own in (False, True) for noted in ("away", "none", "own", "seen")
            if (own, noted) != (True, "seen")))

    def test_a_book_without_statements(self):
        self.assertEqual(len(book_of(SUM)), 0)
        self.assertEqual(str(spanned(book_of(SUM), ("open", 0, True, "none"))), "1 0 | 0 1")
        noting = book_of("rest open ; total sum ; note n ; event come none to open amount group ; on come ; put n new")
        self.assertEqual(str(spanned(noting, ("open", 0, False, "none"))), "1 0 0 | 0 1 1")


class Spans(unittest.TestCase):
    """[28]: lattices told by hand."""

    def assert_spans(self, book, standing, text):
        self.assertEqual(str(spanned(book, standing)), text)

    def test_own_and_other_groups(self):
        book = book_of(SUM, "on come ; add 5 new sum new ; add 7 one sum old")
        self.assert_spans(book, ("open", 0, True, "none"), "1 0 0 1 | 0 1 1 0")
        self.assert_spans(book, ("open", 0, False, "none"), "1 0 0 0 | 0 1 0 0")
        self.assertEqual(spanned(book, ("open", 0, True, "none")).width, 4)

    def test_factors_do_not_matter(self):
        book = book_of(SUM, "on come ; add 0 new sum new ; add 0 one sum new")
        self.assert_spans(book, ("open", 0, True, "none"), "1 0 0 1 | 0 1 1 0")

    def test_the_vector_of_a_record_that_is_gone(self):
        book = book_of(PLAY, "event go open to none ; on come ; add 1 one sum new ; on go ; add 1 old sum old")
        # By one life in the watched group: 1 0 1 x. Without that: 1 0 0 0.
        self.assert_spans(book, GONE, "1 0 0 0 | 0 0 1 0 | 0 0 0 1")

    def test_no_life_of_no_deeds(self):
        # A record that can't go is never gone, though it was not there before its first deed.
        book = book_of(PLAY, "on come ; add 1 one sum new")
        self.assertNotIn(GONE, standings(book))
        self.assertEqual(raised(spanned, book, GONE), ("Mismatch",))
        # Seen from a group that it never had, a record that is gone has the same vector as one of no deeds.
        book = book_of(PLAY, "event go open to none ; on come ; mark new ; on go ; add 1 one sum noted")
        self.assert_spans(book, GONE, "1 0 0 | 0 0 1")

    def test_notes_are_0_and_the_amount_is_0_where_it_is_gone(self):
        book = book_of("rest open ; total sum ; note n ; note m ; event come none to open amount group",
                       "event go open to none ; on come ; put n new ; put m one ; on go ; put n old ; add 1 n sum old",
                       "add 1 new sum old")
        self.assert_spans(book, GONE, "1 0 0 0 0 0 | 0 0 0 0 1 0")
        self.assert_spans(book, ("open", 0, True, "none"), "1 0 0 1 0 0 | 0 1 1 0 0 0 | 0 0 0 0 1 0")

    def test_notes_ahead_and_behind(self):
        rows = "on come ; add 1 n sum new ; put n new ; add 1 n sum new ; put m n ; put n one ; add 1 m sum new"
        book = book_of("rest open ; total sum ; note n ; note m ; event come none to open amount group", rows)
        # One, amount, n, m, then what the note was: 0, the amount, and the amount again.
        self.assert_spans(book, ("open", 0, True, "none"), "1 0 1 0 0 0 0 | 0 1 0 1 0 1 1")

    def test_a_note_that_is_added_where_the_record_moves(self):
        book = book_of("rest open ; total sum ; note n ; event come none to open amount group", MOVE,
                       "on come ; put n new ; add 1 one sum new ; on move ; add 2 n sum old")
        for own in (True, False):
            self.assert_spans(book, ("open", 0, own, "none"), "1 0 0 0 0 | 0 1 1 0 0 | 0 0 0 1 0 | 0 0 0 0 1")

    def test_a_class_of_just_one_amount(self):
        rows = "on come ; if new below 5 ; end ; if new below 6 ; end ; add 1 new sum new ; on more ; add 1 old sum new"
        book = book_of(PLAY, "event more open to open", rows)
        self.assert_spans(book, ("open", 1, True, "none"), "1 5 5 0 | 0 0 0 5")
        self.assert_spans(book, ("open", 0, True, "none"), "1 0 0 0 | 0 1 1 0 | 0 0 0 1")
        self.assert_spans(book, ("open", 2, True, "none"), "1 0 0 0 | 0 1 1 0 | 0 0 0 1")
        self.assert_spans(book, ("open", 1, False, "none"), "1 5 0 0")

    def test_sums_stay_behind(self):
        # The record comes by 3 to the watched group, and counts its moves there by 4 in all.
        book = book_of("rest a ; rest b ; total sum ; event come none to a amount group ; event move a to b group",
                       "on come ; if new below 3 ; end ; if new below 4 ; add 1 new sum new ; end",
                       "on move ; add 1 old sum old")
        self.assert_spans(book, ("b", 1, False, "none"), "1 3 0 0 | 0 0 3 3")
        self.assert_spans(book, ("b", 2, False, "none"), "1 0 0 0 | 0 1 0 0 | 0 0 0 1")

    def test_places(self):
        book = book_of(PLAY, MOVE, "on come ; mark new ; on move ; add 1 one sum old ; add 1 one sum new ; add 1 one sum noted",
                       "mark none ; add 1 one sum noted")
        # From the watched group to another one: old and noted, as it is noted just for the first move.
        self.assert_spans(book, ("open", 0, True, "own"), "1 0 0 0 0 0 | 0 1 0 0 0 0")
        self.assert_spans(book, ("open", 0, False, "none"), "1 0 0 0 0 0 | 0 1 0 0 0 0 | 0 0 1 0 1 0 | 0 0 0 1 -1 0")
        # It comes there as often as it leaves, but for its first group.
        self.assert_spans(book, ("open", 0, True, "none"), "1 0 0 0 1 0 | 0 1 0 0 0 0 | 0 0 1 0 1 0 | 0 0 0 1 -1 0")

    def test_what_is_never_done(self):
        book = book_of(SUM, "on come ; if moved ; add 1 one sum new ; end ; if was open ; add 1 one sum new ; end",
                       "if noted ; add 1 one sum new ; end ; add 1 one sum noted ; add 1 old sum new")
        self.assert_spans(book, ("open", 0, True, "none"), "1 0 0 0 0 0 0 | 0 1 0 0 0 0 0")

    def test_statements_in_others_and_of_later_handlers(self):
        book = book_of(PLAY, "event set open to open amount",
                       "on set ; if old below 0 ; add 1 one sum new ; else ; add 1 one sum new ; add 1 new sum new ; end",
                       "on come ; add 1 one sum new")
        self.assert_spans(book, ("open", 0, True, "none"),
                          "1 0 0 0 0 1 | 0 1 0 0 0 0 | 0 0 1 0 0 0 | 0 0 0 1 0 0 | 0 0 0 0 1 0")
        self.assert_spans(book, ("open", 0, False, "none"), "1 0 0 0 0 0 | 0 1 0 0 0 0")


class NoStandings(unittest.TestCase):
    """[28]: Mismatch for all values that are no standing that can come."""

    BOOK = book_of(PLAY, MOVE, "on come ; if new below 5 ; end ; mark new")
    GOOD = ("open", 0, True, "own")

    def assert_none(self, value, book=None):
        with self.subTest(value=value):
            self.assertEqual(raised(spanned, self.BOOK if book is None else book, value), ("Mismatch",))

    def test_just_those_that_come_are_taken(self):
        for book in (self.BOOK, *RIGHT.values(), *[book for book, _ in WRONG.values()], *HOPELESS.values()):
            told = standings(book)
            for kind in ("none", *book.rests, *book.passes, "x", ""):
                for cut in range(-1, len(book.cuts) + 2):
                    for own in (False, True):
                        for noted in ("none", "own", "seen", "away"):
                            value = (kind, cut, own, noted)
                            if value in told:
                                self.assertIsInstance(spanned(book, value), Lattice)
                            else:
                                self.assert_none(value, book)

    def test_no_tuple_of_four(self):
        good = self.GOOD
        for value in (None, True, 0, 1, "", "open", "none", (), [], list(good), good[:3], (*good, "own"), (good,), [good],
                      (good,) * 4, ("open",) * 4, (("open",), (0,), (True,), ("own",)), (None,) * 4, str(good)):
            self.assert_none(value)

    def test_a_wrong_part(self):
        nested = ((((((("own",),),),),),),)
        wrong = [
            [None, True, 0, "", "Open", "paid", "none", "open ", ("open",), ["open"], nested],
            [None, True, False, -1, 2, 10 ** 12, "0", "", (0,), [0], nested],
            [None, 0, 1, "True", "", "own", (True,), [True], nested],
            [None, True, False, 0, "", "none", "seen", "Own", "away ", "open", ("own",), ["own"], nested],
        ]
        self.assertIsInstance(spanned(self.BOOK, self.GOOD), Lattice)
        for at, values in enumerate(wrong):
            for value in values:
                self.assert_none((*self.GOOD[:at], value, *self.GOOD[at + 1:]))
                self.assert_none([*self.GOOD[:at], value, *self.GOOD[at + 1:]])

    def test_bools_and_integers_the_wrong_way_about(self):
        book = book_of(PLAY, "event go open to none ; on come ; if new below 5 ; end")
        for value in (("open", 0, True, "none"), ("open", 1, False, "none"), GONE):
            spanned(book, value)
            kind, cut, own, noted = value
            for wrong in ((kind, bool(cut), own, noted), (kind, cut, int(own), noted), (kind, bool(cut), int(own), noted),
                          (kind, own, cut, noted)):
                self.assert_none(wrong, book)

    def test_a_record_that_is_gone_only_as_it_is_told(self):
        book = book_of(PLAY, "event go open to none ; on come ; if new below 5 ; end ; mark new")
        spanned(book, GONE)
        for value in (("none", 1, False, "none"), ("none", 0, True, "none"), ("none", 0, False, "own"),
                      ("none", 0, False, "seen"), ("none", 0, False, "away"), ("none", 0, True, "own")):
            self.assert_none(value, book)

    def test_seen_where_the_group_is_the_own_one(self):
        self.assertIn(("open", 0, False, "seen"), standings(self.BOOK))
        self.assert_none(("open", 0, True, "seen"))


class Drawn(unittest.TestCase):
    """[27], [28], [29]: against all short lives and many longer ones, by run_life."""

    def collected(self, book, lives):
        """For each standing of these lives the vectors of all of them that have it."""
        found = {}
        for life in lives:
            for watched in watched_in(life):
                found.setdefault(standing_of(book, life, watched), {})[vector_of(life, watched)] = True
        return found

    def assert_covered(self, book, lives, whole):
        """Tests that all standings and vectors of lives are told, and, where these are all that is needed, no more."""
        found = self.collected(book, lives)
        told = standings(book)
        self.assertEqual(told, tuple(sorted(set(told))))
        self.assertLessEqual(set(found), set(told))
        if whole:
            self.assertEqual(set(found), set(told))
        for standing, vectors in found.items():
            lattice = spanned(book, standing)
            self.assertEqual(lattice.width, 2 + len(book.notes) + len(book))
            for vector in vectors:
                self.assertIn(vector, lattice)
            if whole:
                self.assertEqual(lattice, Lattice(lattice.width, list(vectors)))

    def test_all_short_lives_of_some_books(self):
        for book in (*RIGHT.values(), *[book for book, _ in WRONG.values()], *HOPELESS.values(), Book.read(PLAIN)):
            with self.subTest(book=str(book)):
                lives = [life for _, life in lives_of(book, 3)]
                self.assert_covered(book, lives, False)

    def test_short_lives_are_enough_in_small_books(self):
        books = [book_of(PLAY, MOVE, "on come ; mark new ; add 1 one sum new ; on move ; add 1 old sum noted"),
                 book_of(SUM, "event set open to open amount ; event go open to none",
                         "on come ; add 1 new sum new ; on set ; add 1 old sum new ; on go ; add 1 old sum new"),
                 book_of(PLAY, MOVE, "on move ; if moved ; mark old ; end ; if noted ; add 1 new sum new ; end")]
        for book in books:
            with self.subTest(book=str(book)):
                self.assert_covered(book, [life for _, life in lives_of(book, 5)], True)

    def test_all_short_lives_of_drawn_books(self):
        # With two notes it is somewhat beyond the limits.
        for seed in range(60):
            book = drawn_book(seed, kinds=1 + seed % 2, notes=seed % 3, cuts=seed // 2 % 3, totals=1 + seed % 2)
            with self.subTest(seed=seed):
                self.assert_covered(book, [life for _, life in lives_of(book, 2)], False)

    def test_the_standings_come_and_the_vectors_are_sums(self):
        rng = random.Random(5)
        for seed in range(25):
            book = drawn_book(seed, kinds=1 + seed % 2, notes=seed % 3, cuts=seed // 2 % 2, events=3, statements=2)
            amounts = amounts_of(book)
            lives = [run_life(book, drawn_deeds(rng, book, 9, amounts)) for _ in range(1500)]
            lives = [life for _, life in lives_of(book, 2)] + [life for life in lives if life.groups]
            with self.subTest(seed=seed):
                self.assert_covered(book, lives, True)

    def test_each_group_and_one_that_it_never_had(self):
        book = book_of(PLAY, MOVE, "on come ; mark new ; on move ; add 1 one sum noted")
        life = run_life(book, [("come", 4, "a"), ("move", None, "b")])
        self.assertEqual([standing_of(book, life, watched) for watched in ("a", "b", NEVER)],
                         list(open_ones((False, "seen"), (True, "away"), (False, "away"))))
        for watched in ("a", "b", NEVER):
            self.assertIn(vector_of(life, watched), spanned(book, standing_of(book, life, watched)))


if __name__ == "__main__":
    unittest.main()
