"""[35]: whether two books keep the same totals, and the shortest lives that part them."""

import random
import unittest

from sumlives.alike import alike, always_alike, parting
from sumlives.books import Book
from sumlives.lives import run_life
from sumlives.parts import Handler, Worth
from sumlives.rows import Add, If, Mark, Moved, NewBelow, Not, Noted, OldBelow, Put, Was
from tests.drawn import NEVER, amounts_of, deeds_of, drawn_book, drawn_deeds
from tests.helpers import PLAIN, raised
from tests.texts import PLAY, RIGHT, SUM, WRONG, book_of

MOVE = "event move open to open group"
CALLS = (alike, always_alike, parting)
WAY = ("rest open ; pass way ; total sum ; note n ; event come none to way amount group",
       "event end way to open ; event go open to none")


def unlike(p, q, deeds):
    """The totals and groups of which two books do not keep the same in a life."""
    lives = [run_life(book, deeds) for book in (p, q)]
    return [(total, group) for total in p.totals for group in (*lives[0].groups, NEVER)
            if lives[0].kept(total, group) != lives[1].kept(total, group)]


def rests(p, deeds):
    return run_life(p, deeds).at_rest


class Compared(unittest.TestCase):
    """Which books are compared."""

    TEXT = ("rest a ; rest b ; pass c ; pass d ; total s ; total t ; worth s a 1 one",
            "event come none to a amount group ; event set a b to c amount ; event go c to none", "on come ; add 1 one s new")

    def assert_mismatch(self, p, q):
        for call in CALLS:
            for one, other in ((p, q), (q, p)):
                with self.subTest(call=call, one=str(one), other=str(other)):
                    self.assertEqual(raised(call, one, other), ("Mismatch",))

    def test_in_any_order(self):
        p = book_of(*self.TEXT)
        q = book_of("rest b ; rest a ; pass d ; pass c ; total t ; total s",
                    "event go c to none ; event come none to a amount group ; event set a b to c amount",
                    "on come ; add 1 one s new")
        for one, other in ((p, q), (q, p)):
            self.assertEqual([call(one, other) for call in CALLS], [True, True, None])
        third = q.with_factors((2,))
        for one, other in ((p, third), (third, p)):
            self.assertEqual([call(one, other) for call in CALLS[:2]], [False, False])
            self.assertEqual((len(parting(one, other)[0]), parting(one, other)[1]), (1, "s"))

    def test_other_rests_passes_and_totals(self):
        text = " ; ".join(self.TEXT)
        p = book_of(text)
        for old, new in (("rest b", "rest b ; rest e"), ("pass d", "pass d ; pass e"), ("pass c ; pass d", "pass c"),
                         ("pass c ; pass d", "pass c ; pass e"), ("total t", "total t ; total u"), (" ; total t", ""),
                         ("total t", "total u"), ("rest b ; pass c", "rest b ; rest c"), ("rest a ; rest b", "rest a ; pass b"),
                         ("pass d", "rest d")):
            changed = text.replace(old, new, 1)
            if new == "rest d":
                changed = text.replace(" ; pass d", "").replace("rest b", "rest b ; rest d")
            self.assert_mismatch(p, book_of(changed))

    def test_other_events(self):
        text = " ; ".join(self.TEXT)
        p = book_of(text)
        for old, new in (("event go c to none", "event go c to none ; event more a to b"), (" ; event go c to none", ""),
                         ("event go ", "event gone "), ("event set a b to", "event set b a to"),
                         ("event set a b to", "event set a to"), ("event set a b to", "event set a b d to"),
                         ("to c amount", "to d amount"), ("to c amount", "to c"), ("to c amount", "to c group"),
                         ("to c amount", "to c amount group"), ("event go c to", "event go d to"),
                         ("event come none to a", "event come none to b")):
            self.assert_mismatch(p, book_of(text.replace(old, new, 1)))

    def test_worths_notes_cuts_and_handlers_may_be_unlike(self):
        p = book_of(*self.TEXT)
        for text in (" ; ".join(self.TEXT).replace("worth s a 1 one", "worth t b 5 amount from 3 ; worth s b 1 one"),
                     " ; ".join(self.TEXT).replace("worth s a 1 one", "note n ; note m"),
                     " ; ".join(self.TEXT).replace("total t ; worth s a 1 one", "total t"),
                     " ; ".join(self.TEXT) + " ; if new below 5 ; end ; on go",
                     " ; ".join(self.TEXT).replace("on come ; add", "on go ; on come ; add")):
            self.assertEqual([call(p, book_of(text)) for call in CALLS], [True, True, None])

    def test_books_without_statements(self):
        bare = book_of(SUM)
        self.assert_mismatch(bare, RIGHT["only comes"])
        self.assert_mismatch(bare, bare)
        self.assert_mismatch(bare, Book.read(PLAIN))


class ByHand(unittest.TestCase):
    """What is alike, and what parts books."""

    def assert_alike(self, p, q, always=True):
        for one, other in ((p, q), (q, p)):
            self.assertIs(alike(one, other), True)
            self.assertIs(always_alike(one, other), always)
            self.assertIsNone(parting(one, other))

    def assert_parted(self, p, q, many=None):
        """Tests the life that is told, and that no shorter one parts the books."""
        for one, other in ((p, q), (q, p)):
            self.assertIs(alike(one, other), False)
            self.assertIs(always_alike(one, other), False)
            told = parting(one, other)
            self.assertIs(type(told), tuple)
            deeds, total, group = told
            self.assertEqual({type(deeds), *map(type, deeds)}, {tuple})
            self.assertIs(rests(one, deeds), True)
            self.assertIn((total, group), unlike(one, other, deeds))
            for shorter in deeds_of(one, len(deeds) - 1, amounts_of(one, other)):
                if rests(one, shorter):
                    self.assertEqual(unlike(one, other, shorter), [])
            if many is not None:
                self.assertEqual(len(deeds), many)

    def test_a_book_with_itself(self):
        for book in (*RIGHT.values(), *[book for book, _ in WRONG.values()], Book.read(PLAIN)):
            self.assert_alike(book, book)
            self.assert_alike(book, Book.read(str(book)))

    def test_factors_shared_out(self):
        rows = "on come ; add {} new sum new ; add {} new sum old"
        p = book_of(SUM, rows.format(5, -2))
        for factors in ((3, 0), (0, 3), (-2, 5), (100, -97)):
            self.assert_alike(p, book_of(SUM, rows.format(*factors)))
        self.assert_alike(p, book_of(SUM, "on come ; add 3 new sum new"))
        self.assert_parted(p, book_of(SUM, rows.format(5, -3)), 1)

    def test_by_a_note_by_a_mark_by_old_and_new(self):
        head = "rest open ; total sum ; event come none to open amount group ; event move open to open group"
        noting = head.replace("total sum ;", "total sum ; note n ;")
        plain = book_of(head, "on come ; add 2 new sum new ; on move ; add 1 old sum old ; add 1 old sum new")
        self.assert_alike(plain, book_of(head, "on come ; mark new ; add 2 new sum old ; on move",
                                         "add 1 new sum noted ; mark new ; add 1 old sum noted"))
        self.assert_alike(plain, book_of(noting, "on come ; put n new ; add 2 n sum new ; on move ; add 1 n sum old",
                                         "add 1 n sum new"))
        self.assert_parted(plain, book_of(noting, "on come ; put n one ; add 2 new sum new ; on move ; add 1 n sum old",
                                          "add 1 n sum new"), 2)
        self.assert_parted(plain, book_of(head, "on come ; mark new ; add 2 new sum old ; on move ; add 1 new sum noted",
                                          "add 1 new sum new"), 3)

    def test_both_have_notes_of_the_same_name_and_marks_of_their_own(self):
        head = "rest open ; total sum ; note n ; event come none to open amount group ; event move open to open group"
        p = book_of(head, "on come ; put n new ; mark new ; on move ; add 1 n sum noted ; mark new")
        q = book_of(head, "on come ; put n one ; mark old ; on move ; add 1 new sum old ; mark none")
        self.assert_alike(p, q)
        self.assert_parted(p, book_of(head, "on come ; put n one ; mark old ; on move ; add 1 n sum old"), 2)

    def test_notes_of_unlike_numbers(self):
        two = "rest open ; total sum ; note n ; note m ; event come none to open amount group ; event more open to open"
        one = two.replace(" ; note m", "")
        none = one.replace(" ; note n", "")
        p = book_of(two, "on come ; put m new ; put n one ; add 1 m sum new ; on more ; add 1 m sum new ; add 1 n sum new")
        q = book_of(one, "on come ; put n new ; add 1 n sum new ; on more ; add 1 n sum new ; add 1 one sum new")
        r = book_of(none, "on come ; add 1 new sum new ; on more ; add 1 old sum new ; add 1 one sum new")
        self.assert_alike(p, q)
        self.assert_alike(p, r)
        self.assert_alike(q, r)
        self.assert_parted(p, book_of(one, "on come ; put n new ; add 1 n sum new ; on more ; add 1 n sum new"), 2)

    def test_the_same_only_where_the_record_rests(self):
        p = book_of(*WAY, "on come ; add 2 new sum new ; on end ; add 3 one sum new")
        q = book_of(*WAY, "on come ; put n new ; on end ; add 2 n sum new ; add 3 one sum new")
        self.assert_alike(p, q, False)
        r = book_of(*WAY, "on come ; put n new ; on end ; add 2 n sum new ; add 2 one sum new")
        self.assert_parted(p, r, 2)
        # A record that is gone rests, too.
        self.assert_parted(p, book_of(*WAY, "on come ; add 2 new sum new ; on end ; add 3 one sum new ; on go",
                                      "add 1 one sum old"), 3)

    def test_in_a_group_that_was_left(self):
        p = book_of(PLAY, MOVE, "on come ; add 1 new sum new ; on move ; add -1 old sum old ; add 1 old sum new")
        q = book_of(PLAY, MOVE, "on come ; add 1 new sum new ; on move ; if moved ; add 1 old sum new ; end")
        self.assert_parted(p, q, 2)
        deeds, _, group = parting(p, q)
        self.assertEqual((deeds[0][2], deeds[0][2] == deeds[1][2]), (group, False))
        self.assert_alike(p, book_of(PLAY, MOVE, "on come ; add 1 new sum new ; on move ; if moved ; add -1 old sum old",
                                     "add 1 old sum new ; end"))

    def test_behind_a_record_that_is_gone(self):
        text = "event go open to none ; on come ; add 1 new sum new ; on go ; add {} old sum old"
        self.assert_parted(book_of(PLAY, text.format(-1)), book_of(PLAY, text.format(-2)), 2)
        # The newer amount is 0 there, the newer group is the older one.
        self.assert_alike(book_of(PLAY, text.format(-1)), book_of(PLAY, text.format(-1) + " ; add 5 new sum new"))
        self.assert_alike(book_of(PLAY, text.format(-1)), book_of(PLAY, text.format(-1).replace("sum old", "sum new")))

    def test_at_amounts_of_one_class_of_one_of_the_books(self):
        p = book_of(PLAY, "on come ; add 1 one sum new")
        for number in (-999, 0, 1, 77):
            q = book_of(PLAY, f"on come ; if new below {number} ; add 1 one sum new ; else ; add 2 one sum new ; end")
            self.assert_parted(p, q, 1)
            self.assertGreaterEqual(parting(p, q)[0][0][1], number)
            same = book_of(PLAY, f"on come ; if new below {number} ; add 1 one sum new ; else ; add 1 one sum new ; end")
            self.assert_alike(p, same)
        self.assert_parted(p, book_of(PLAY, "on come ; if new below 5 ; if not new below 4 ; add 1 one sum new ; end ; end"), 1)

    def test_cuts_of_both(self):
        p = book_of(PLAY, "on come ; if new below 5 ; add 1 one sum new ; end")
        q = book_of(PLAY, "on come ; if new below 6 ; add 1 one sum new ; end")
        self.assert_parted(p, q, 1)
        self.assertEqual(parting(p, q)[0][0][1], 5)
        self.assert_alike(p, book_of("rest open ; total sum ; worth sum open 1 one from 5 ; event come none to open amount group",
                                     "on come ; if not new below 5 ; else ; add 1 one sum new ; end"))

    def test_only_where_both_take_a_certain_branch(self):
        # One adds where the record comes back to where it came first, the other one where it came from last.
        p = book_of(PLAY, MOVE, "on come ; mark new ; on move ; if noted ; if moved ; add 1 one sum new ; end ; end")
        q = book_of(PLAY, MOVE, "on come ; mark new ; on move ; if noted ; if moved ; add 1 one sum new ; end ; mark old ; end")
        self.assert_parted(p, q, 4)

    def test_two_totals(self):
        head = "rest open ; total a ; total b ; event come none to open amount group ; event more open to open"
        p = book_of(head, "on come ; add 1 one a new ; on more ; add 1 one b new")
        self.assert_parted(p, book_of(head, "on come ; add 1 one a new ; on more ; add 1 one a new"), 2)
        self.assert_parted(p, book_of(head, "on come ; add 1 one b new ; on more ; add 1 one b new"), 1)
        q = book_of(head.replace("total a ; total b", "total b ; total a"), "on come ; add 1 one a new ; on more ; add 1 one b new")
        self.assert_alike(p, q)
        r = q.with_factors((1, 2))
        self.assertEqual((parting(p, r)[1], parting(r, p)[1]), ("b", "b"))


def other_of(rng, book):
    """A book of the same events with other handlers, which mostly keep the same."""
    way = rng.randrange(7)
    handlers = list(book.handlers)
    at = rng.randrange(len(handlers))
    rows = list(handlers[at].rows)
    place = rng.randrange(len(rows) + 1)
    adds = [number for number, row in enumerate(rows) if isinstance(row, Add)]
    if way == 0 and adds:
        one = rows[rng.choice(adds)]
        rows[rows.index(one)] = Add(one.factor - 2, one.what, one.total, one.place)
        rows.insert(rows.index(Add(one.factor - 2, one.what, one.total, one.place)), Add(2, one.what, one.total, one.place))
    elif way == 1:
        rows.insert(place, If(rng.choice([Moved(), Noted(), Was("k")]), [Mark(rng.choice(["old", "new"]))]))
    elif way == 2 and book.notes:
        rows.insert(place, Put(book.notes[0], rng.choice(["old", "new", "one"])))
    elif way == 3 and adds:
        one = rows[rng.choice(adds)]
        rows[rows.index(one)] = Add(one.factor, one.what, one.total, {"old": "new", "new": "old"}.get(one.place, "noted"))
    elif way == 4 and adds:
        one = rows[rng.choice(adds)]
        cut = book.cuts[0] if book.cuts else 0
        rows[rows.index(one)] = If(Not(rng.choice([NewBelow(cut), OldBelow(cut)])), [one], [one])
    elif way == 5 and adds:
        one = rows[rng.choice(adds)]
        rows[rows.index(one)] = Add(one.factor, {"old": "new", "new": "old"}.get(one.what, one.what), one.total, one.place)
    else:
        rows = [row for number, row in enumerate(rows) if number != place or isinstance(row, Add)]
    handlers[at] = Handler(handlers[at].event, rows)
    worths = [Worth(book.totals[0], book.rests[0], 1, "one")]
    return Book(book.rests, book.passes, book.totals[::-1], book.notes, worths, book.events, handlers[::-1])


class Drawn(unittest.TestCase):
    """Against all short lives and many longer ones."""

    def test_drawn_books(self):
        rng = random.Random(6)
        seen = {True: 0, False: 0}
        for seed in range(150):
            p = drawn_book(seed, kinds=1 + seed % 2, notes=seed % 2, cuts=seed // 2 % 2, totals=1 + seed % 2, statements=3,
                           rows=7)
            q = other_of(rng, p)
            if rng.random() < 0.3:
                q = other_of(rng, q)
            amounts = amounts_of(p, q)
            lives = list(deeds_of(p, 2, amounts)) + [drawn_deeds(rng, p, 7, amounts) for _ in range(250)]
            lives = [deeds for deeds in lives if deeds]
            parted = [deeds for deeds in lives if unlike(p, q, deeds)]
            resting = [len(deeds) for deeds in parted if rests(p, deeds)]
            with self.subTest(seed=seed):
                self.assertIs(always_alike(p, q), not parted)
                self.assertIs(alike(p, q), not resting)
                self.assertIs(alike(q, p), not resting)
                told = parting(p, q)
                seen[told is None] += 1
                self.assertIs(told is None, not resting)
                if told is not None:
                    self.assertIs(rests(p, told[0]), True)
                    self.assertIn(told[1:], unlike(p, q, told[0]))
                    self.assertLessEqual(len(told[0]), min(resting))
                    if len(told[0]) < 4:
                        self.assertEqual([deeds for deeds in deeds_of(p, len(told[0]) - 1, amounts)
                                          if rests(p, deeds) and unlike(p, q, deeds)], [])
        self.assertGreater(min(seen.values()), 15)


if __name__ == "__main__":
    unittest.main()
