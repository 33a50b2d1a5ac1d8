"""[1], [2], [3]: what holds for all functions and classes."""

import copy
import unittest

from sumlives.alike import alike, always_alike, parting
from sumlives.books import Book
from sumlives.deciding import divisor, is_right, right_factors, wrong_life
from sumlives.desk import Desk
from sumlives.errors import InvalidVector
from sumlives.lattices import Lattice
from sumlives.lives import run_life
from sumlives.mending import blamed, idle, least_enough, least_mends, mended
from sumlives.papers import paper, paper_holds, weights, weights_hold
from sumlives.parts import Event, Handler, Worth
from sumlives.rows import Add, If, Mark, Moved, NewBelow, Not, OldBelow, Put, Was
from sumlives.standings import spanned, standings
from sumlives.store import Store
from sumlives.systems import Factors
from tests.drawn import drawn_book
from tests.helpers import PLAIN, great_rows, package_objects, raised
from tests.tables import weights_are_right
from tests.texts import GREAT, HOPELESS, LESS, RIGHT, SUM, WRONG, book_of


class Names(unittest.TestCase):
    """[2]: arguments by name, in any order."""

    def test_lattice(self):
        some = Lattice(2, [(4, 6), (6, 9)])
        self.assertEqual(Lattice(rows=[(4, 6), (6, 9)], width=2), some)
        self.assertEqual(Lattice(2, rows=((4, 6), (6, 9))), some)
        self.assertEqual(Lattice(width=2), Lattice(2, ()))
        self.assertEqual(some.reduced(vector=(5, 5)), some.reduced((5, 5)))
        self.assertEqual(some.divisor(form=(1, 1)), 5)

    def test_factors(self):
        some = Factors(2, (5, 1), [(2, 1)])
        self.assertEqual(Factors(rows=[(2, 1)], point=(5, 1), width=2), some)
        self.assertEqual(Factors(2, rows=((2, 1),), point=(5, 1)), some)
        self.assertEqual(Factors(width=2), Factors(2, None, ()))
        self.assertEqual(Factors.every(width=2), Factors.every(2))
        self.assertEqual(Factors.solving(rights=[7], forms=[(2, 3)], width=2), Factors.solving(2, [(2, 3)], [7]))
        self.assertEqual(Factors.read(text="5 1 + 2 1"), some)

    def test_standings(self):
        book, standing = RIGHT["sets and goes"], ("open", 0, True, "none")
        self.assertEqual(standings(book=book), standings(book))
        self.assertEqual(spanned(standing=standing, book=book), spanned(book, standing))
        self.assertEqual(spanned(book, standing=standing), spanned(book=book, standing=standing))

    def test_deciding_and_mending(self):
        book = WRONG["an older amount"][0]
        for call in (right_factors, is_right, wrong_life, least_mends, least_enough, blamed, idle):
            self.assertEqual(call(book=book), call(book))
        self.assertEqual(divisor(total="sum", book=book), divisor(book, "sum"))
        self.assertEqual(divisor(book, total="sum"), 1)
        self.assertEqual(mended(numbers=[0], book=RIGHT["moves"]), mended(RIGHT["moves"], [0]))
        self.assertEqual(mended(RIGHT["moves"], numbers=()), RIGHT["moves"])

    def test_alike_and_papers(self):
        book, other = Book.read(PLAIN), Book.read(PLAIN).with_factors((1, 2, -2, -1))
        for call in (alike, always_alike):
            self.assertEqual((call(q=other, p=book), call(book, q=other), call(q=book, p=book)), (False, False, True))
        self.assertEqual((parting(q=other, p=book), parting(q=book, p=book)), (parting(book, other), None))
        hopeless = HOPELESS["a half"]
        for call, check, some in ((paper, paper_holds, book), (weights, weights_hold, hopeless)):
            told = call(book=some)
            self.assertEqual(told, call(some))
            self.assertEqual((check(value=told, book=some), check(some, value=told), check(value=(), book=some)),
                             (True, True, False))

    def test_store(self):
        store = Store(book=Book.read(PLAIN))
        self.assertEqual(store.do(group="a", amount=5, event="come", key="x"), "open")
        self.assertEqual(store.do("x", amount=7, event="set"), "open")
        self.assertEqual(store.several(deeds=[("y", "come", 1, "b")]), ("open",))
        self.assertEqual((store.kept(group="a", total="sum"), store.anew(group="b", total="sum"),
                          store.off(group="a", total="sum")), (7, 1, 0))
        self.assertEqual((store.within(work=lambda inner: inner.do("x", "go")), len(store)), ("none", 3))

    def test_desk(self):
        self.assertEqual(Desk().say(command="book " + PLAIN.replace("\n", " ; ")), "4 statements")

    def test_other_names_are_none(self):
        book = RIGHT["moves"]
        for call in (lambda: Lattice(2, vectors=()), lambda: Factors(2, base=(1, 1)), lambda: Factors.read(line="1"),
                     lambda: standings(other=book), lambda: divisor(book, name="sum"), lambda: mended(book, some=()),
                     lambda: alike(p=book, other=book), lambda: paper_holds(book, table=()), lambda: Store(other=book),
                     lambda: Store(book).do("x", "come", amount=5, to="a"), lambda: Desk().say(text="undo")):
            with self.assertRaises(TypeError):
                call()


class Sequences(unittest.TestCase):
    """[2]: lists and tuples are taken, tuples are returned."""

    def test_lists_and_tuples(self):
        self.assertEqual(Lattice(2, [(4, 6), (6, 9)]), Lattice(2, ((4, 6), (6, 9))))
        self.assertEqual(Factors(2, (1, 1), [(4, 6)]), Factors(2, (1, 1), ((4, 6),)))
        self.assertEqual(Factors.solving(2, [(2, 3)], (7,)), Factors.solving(2, ((2, 3),), [7]))

    def test_tuples_are_returned(self):
        some, factors = Lattice(2, [(3, 1), (0, 4)]), Factors.solving(2, [(2, 3)], [7])
        for value in (some.basis, some.basis[0], some.reduced((5, 5)), factors.point, factors.basis, factors.basis[0],
                      Factors(2).basis, Factors.every(2).point, Factors.read("1 2 + 3 4").point):
            self.assertIs(type(value), tuple)

    def test_tuples_are_returned_by_what_compares_and_shows_and_stores(self):
        book, hopeless, store = RIGHT["a cut"], HOPELESS["never taken away"], Store(Book.read(PLAIN))
        told, tables, items = parting(book, book.with_factors((1, 1, -2))), paper(book), weights(hopeless)
        kinds = store.several([("x", "come", 5, "a"), ("y", "come", 6, "a")])
        for value in (told, told[0], told[0][0], tables, tables[0], *tables[0], tables[0][1][0], items, items[0], items[0][2],
                      items[0][2][0], kinds, store.several(()), store["x"], store.names, Store(book).names):
            self.assertIs(type(value), tuple)

    def test_deeds_in_lists_and_tuples(self):
        deeds = [("x", "come", 5, "a"), ("x", "set", 6, None)]
        stores = [Store(Book.read(PLAIN)) for _ in range(2)]
        self.assertEqual(stores[0].several(deeds), stores[1].several(tuple(deeds)))
        self.assertEqual(stores[0]["x"], stores[1]["x"])

    def test_tuples_are_returned_by_what_decides(self):
        book, never = WRONG["twice as much"][0], RIGHT["never comes"]
        for value in (standings(book), standings(book)[0], standings(never), least_mends(book), least_mends(book)[0],
                      least_mends(RIGHT["moves"])[0], least_mends(HOPELESS["a half"]), least_enough(book),
                      least_enough(book)[0], blamed(book), blamed(RIGHT["moves"])[0],
                      blamed(WRONG["an older amount"][0])[0], idle(book), idle(never), *wrong_life(book)[:1],
                      wrong_life(book), wrong_life(book)[0][0]):
            self.assertIs(type(value), tuple)


class Steady(unittest.TestCase):
    """[2]: the same call gives the same, and objects stay what they are."""

    def test_the_same_call_twice(self):
        rows = great_rows(3, 4)
        calls = [
            lambda: Lattice(4, rows).basis,
            lambda: Lattice(4, rows).reduced((1, 2, 3, 4)),
            lambda: Lattice(4, rows).divisor((1, 2, 3, 4)),
            lambda: str(Lattice(4, rows[:1]) | Lattice(4, rows[1:])),
            lambda: Lattice(4, rows[:1]) < Lattice(4, rows),
            lambda: str(Factors(4, (1, 1, 1, 1), rows)),
            lambda: str(Factors.every(4)),
            lambda: str(Factors.solving(4, rows, [row[0] for row in rows])),
            lambda: str(Factors(4, rows[0], rows[1:]) & Factors.every(4)),
            lambda: Factors.read("7 1 + 4 6").point,
        ]
        first = [call() for call in calls]
        self.assertEqual([call() for call in calls[::-1]], first[::-1])
        self.assertEqual([call() for call in calls], first)

    def test_the_same_call_on_books_and_lives(self):
        book = Book.read(PLAIN)
        come, move = ("come", 7, "a"), ("set", 9, None)
        life = run_life(book, [come, move])
        calls = [
            lambda: str(Book.read(PLAIN)),
            lambda: raised(Book.read, PLAIN + "\nend"),
            lambda: (len(book), book.factors, book.cuts, str(book[0])),
            lambda: (raised(lambda: book[-1]), raised(lambda: book[4])),
            lambda: [book.worth("sum", "open", amount) for amount in (-1, 0, 10 ** 9)],
            lambda: raised(book.worth, "all", "open", 1),
            lambda: str(book.with_factors([5, 6, 7, 8])),
            lambda: raised(book.with_factors, [5, 6, 7]),
            lambda: str(book.barring(["set"])),
            lambda: raised(book.barring, ["set", "x"]),
            lambda: vars(run_life(book, [come])),
            lambda: raised(run_life, book, [come, come]),
            lambda: [(life.kind, life.amount, life.group, life.notes, life.noted, life.groups, life.at_rest)],
            lambda: [(life.sums(group), life.off("sum", group), life.kept("sum", group)) for group in ("a", "b")],
            lambda: run_life(book, [come, move]) == life,
            lambda: [str(made) for made in package_objects()[:10]],
        ]
        first = [call() for call in calls]
        self.assertEqual([call() for call in calls[::-1]], first[::-1])
        self.assertEqual([call() for call in calls[1::2] + calls[::2]], first[1::2] + first[::2])

    def test_the_same_call_of_what_decides(self):
        book, wrong, hopeless = RIGHT["a note and a mark"], WRONG["a group that was left"][0], HOPELESS["a third"]
        bare = book_of(SUM)
        calls = [lambda call=call, some=some: raised(call, some) or str(call(some))
                 for call in (standings, right_factors, is_right, wrong_life, least_mends, least_enough, blamed, idle)
                 for some in (book, wrong, hopeless, bare)]
        calls += [
            lambda: [str(spanned(book, standing)) for standing in standings(book)],
            lambda: raised(spanned, book, ("open", 0, True, "seen")),
            lambda: (divisor(book, "sum"), divisor(wrong, "sum"), divisor(hopeless, "sum")),
            lambda: (raised(divisor, book, "all"), raised(divisor, bare, "all")),
            lambda: [mended(some, numbers) is None for some in (book, wrong, hopeless) for numbers in ([], [0])],
            lambda: str(mended(wrong, [0])),
            lambda: (raised(mended, book, [-1, 9]), raised(mended, bare, [-1])),
        ]
        first = [call() for call in calls]
        self.assertEqual([call() for call in calls[::-1]], first[::-1])
        self.assertEqual([call() for call in calls[1::2] + calls[::2]], first[1::2] + first[::2])
        self.assertEqual(str(book), str(RIGHT["a note and a mark"]))

    def test_the_same_call_of_what_compares_and_shows(self):
        book, wrong, hopeless = RIGHT["a note and a mark"], WRONG["a group that was left"][0], HOPELESS["a third"]
        bare, other = book_of(SUM), WRONG["a group that was left"][0].with_factors((2,))
        calls = [lambda call=call, p=p, q=q: raised(call, p, q) or str(call(p, q)) for call in (alike, always_alike, parting)
                 for p, q in ((book, book), (wrong, other), (other, wrong), (book, wrong), (bare, wrong))]
        calls += [lambda call=call, some=some: raised(call, some) or str(call(some)) for call in (paper, weights)
                  for some in (book, wrong, hopeless, bare)]
        calls += [lambda check=check, some=some, told=told: raised(check, some, told) or check(some, told)
                  for check in (paper_holds, weights_hold) for some in (book, wrong, hopeless, bare)
                  for told in (paper(book), weights(hopeless), None, ())]
        first = [call() for call in calls]
        self.assertEqual([call() for call in calls[::-1]], first[::-1])
        self.assertEqual([call() for call in calls[1::2] + calls[::2]], first[1::2] + first[::2])
        self.assertEqual((str(book), str(wrong)), (str(RIGHT["a note and a mark"]), str(WRONG["a group that was left"][0])))

    def test_what_asks_a_store_or_a_desk_changes_nothing(self):
        store, desk = Store(Book.read(PLAIN)), Desk()
        desk.say("book " + PLAIN.replace("\n", " ; "))
        store.several([("x", "come", 5, "a"), ("y", "come", 6, "b")])
        desk.say("do x come 5 a")
        calls = [
            lambda: (store["x"], store.names, "x" in store, "q" in store, store.at_rest, len(store)),
            lambda: [ask("sum", group) for ask in (store.kept, store.anew, store.off) for group in "abc"],
            lambda: (raised(store.kept, "all", "a"), raised(lambda: store["q"]), raised(store.do, "x", "come", 5, "a")),
            lambda: raised(store.several, [("y", "go", None, None), ("x", "come", 5, "a")]),
            lambda: store.within(lambda inner: (inner.do("x", "go"), inner.recount(), inner.undo(), inner.names)),
            *[lambda command=command: raised(desk.say, command) or desk.say(command)
              for command in ("right", "factors", "mends", "enough", "blame", "divisor sum", "kept sum a", "anew sum a",
                              "divisor all", "kept all a", "do x come 5 a", "book rest", "undo ", "what")],
            lambda: len(desk),
        ]
        first = [call() for call in calls]
        self.assertEqual([call() for call in calls[::-1]], first[::-1])
        self.assertEqual([call() for call in calls[1::2] + calls[::2]], first[1::2] + first[::2])

    def test_arguments_of_what_compares_and_shows_and_stores_stay(self):
        book, hopeless = RIGHT["a cut"], HOPELESS["never taken away"]
        texts = [str(book), str(hopeless)]
        deeds = [("x", "come", 5, "a"), ("x", "set", 50, None)]
        values = [list(paper(book)), list(weights(hopeless)), [["x"], ("come", [5], None)], deeds]
        copies = copy.deepcopy(values)
        for value in values:
            for some in (book, hopeless):
                self.assertEqual((paper_holds(some, value), weights_hold(some, value)), (False, False))
        store = Store(book)
        store.several(deeds)
        self.assertEqual(values, copies)
        deeds.clear()
        self.assertEqual((store["x"], len(store)), (("open", 50, "a"), 1))
        parting(book, book.with_factors((1, 1, -2)))
        self.assertEqual([str(book), str(hopeless)], texts)

    def test_arguments_stay(self):
        rows, others, origins = [Put("n", "old")], [Mark("old")], ["open", "paid"]
        block = [If(Moved(), rows, others)]
        parts = [["open", "paid"], ["way"], ["sum"], ["n"], [Worth("sum", "open", 1, "one")],
                 [Event("set", origins, "way")], [Handler("set", block)]]
        deeds, factors, names = [("set", None, None)], [], ["set"]
        book = Book(*parts)
        raised(run_life, book, deeds)
        raised(book.barring, names)
        book.with_factors(factors)
        self.assertEqual((rows, others, origins), ([Put("n", "old")], [Mark("old")], ["open", "paid"]))
        self.assertEqual(block, [If(Moved(), [Put("n", "old")], [Mark("old")])])
        self.assertEqual(parts, [["open", "paid"], ["way"], ["sum"], ["n"], [Worth("sum", "open", 1, "one")],
                                 [Event("set", ["open", "paid"], "way")], [Handler("set", block)]])
        self.assertEqual((deeds, factors, names), ([("set", None, None)], [], ["set"]))

    def test_an_error_leaves_no_trace(self):
        some, factors = Lattice(2, [(2, 1)]), Factors(2, (1, 1), [(2, 1)])
        for call in (lambda: Lattice(2, [(1, True)]), lambda: Factors(2, (1, 1), [(1,)]), lambda: Factors.every(0)):
            with self.assertRaises(InvalidVector):
                call()
        self.assertEqual((str(some), str(factors)), ("2 1", "1 1 + 2 1"))

    def test_objects_stay(self):
        some, other = Lattice(2, [(4, 0)]), Lattice(2, [(6, 0), (0, 5)])
        p, q = Factors(2, (1, 0), [(4, 0), (0, 1)]), Factors(2, (3, 2), [(6, 0), (0, 1)])
        before = [str(some), str(other), str(p), str(q)]
        for _ in range(2):
            self.assertEqual(str(some | other), "2 0 | 0 5")
            self.assertEqual(str(p & q), "9 0 + 12 0 + 0 1")
            self.assertEqual((some <= other, p <= q, (4, 0) in some, (9, 9) in p), (False, False, True, True))
            self.assertEqual((some.reduced((9, 9)), some.divisor((2, 2)), some.rank, p.size), ((1, 9), 8, 1, None))
        self.assertEqual([str(some), str(other), str(p), str(q)], before)

    def test_no_class_is_equal_to_another_one(self):
        self.assertIs(Lattice(1, [(1,)]) == Factors.every(1), False)
        self.assertIs(Factors.every(1) == Lattice(1, [(1,)]), False)


class Limits(unittest.TestCase):
    """[3]: no error within the limits, nor somewhat beyond them."""

    def test_somewhat_beyond(self):
        rows = [tuple(7 * number for number in row) for row in great_rows(15, 14)]
        some = Lattice(14, rows)
        self.assertEqual(some.rank, 14)
        vector = tuple(10 ** 40 + at for at in range(14))
        self.assertIn(tuple(a - b for a, b in zip(vector, some.reduced(vector))), some)
        self.assertEqual(Factors.solving(14, rows[:14], [sum(row) for row in rows[:14]]).point, (1,) * 14)

    def test_books_and_lives_somewhat_beyond(self):
        test = Was("none")
        for _ in range(30):
            test = Not(test)
        block = [Add(10 ** 12, "n", "s", "new")]
        for number in range(8):
            block = [Add(number, "new", "t", "old"), If(Not(OldBelow(10 ** number)), block, [If(test, block[:1])])]
        kinds = ["a", "b", "c", "d", "e", "f"]
        events = [Event("come", ["none"], "a", True, True), Event("set", kinds, "f", True, True)]
        events += [Event("x" + kind, kinds, kind) for kind in kinds]
        worths = [Worth("s", kind, 10 ** 10, "amount", 10 ** 10 + at) for at, kind in enumerate(kinds[:4] * 3)]
        book = Book(kinds[:4], kinds[4:], ["s", "t", "u"], ["n", "m", "k"], worths, events,
                    [Handler(event.name, block) for event in events])
        self.assertEqual(len(book), 8 * (9 + 8))
        self.assertEqual(book.with_factors(book.factors), book)
        self.assertEqual(len(book.cuts), 8 + 12)
        deeds = [("come", 10 ** 15, "a")] + [("set", -10 ** 15, "bc")] * 40 + [("xa", None, None)] * 40
        life = run_life(book, deeds)
        self.assertEqual((life.kind, life.amount, life.groups), ("a", -10 ** 15, ("a", "bc")))
        small = book.barring(["xb", "xc", "xd", "xe", "xf"])
        self.assertEqual(run_life(small, deeds).off("t", "bc"), life.off("t", "bc"))

    def test_books_at_their_limits(self):
        inner = NewBelow(999999)
        for _ in range(8):
            inner = Not(inner)
        rows = [Add(999, "old", "s", "noted"), If(inner, [If(Moved(), [If(inner, [Put("n", "m")])])])]
        events = [Event("come", ["none"], "a", True, True), *[Event(name, ["a", "b"], "b", True) for name in "vwxyz"]]
        book = Book(["a", "b"], ["c", "d"], ["s", "t"], ["n", "m"],
                    [Worth("s", "a", 999, "amount", at) for at in range(6)], events,
                    [Handler(event.name, rows + rows[:1]) for event in events])
        self.assertEqual((len(book), Book.read(str(book))), (12, book))
        deeds = [("come", 999999999, "a"), *[("z", -999999999, None)] * 29]
        self.assertEqual(run_life(book, deeds).amount, -999999999)

    def test_what_is_decided_at_the_limits(self):
        self.assertEqual((len(GREAT.rests + GREAT.passes), len(GREAT.events), len(GREAT.notes), len(GREAT.cuts), len(GREAT)),
                         (3, 5, 1, 2, 8))
        self.assertEqual(len(standings(GREAT)), 19)
        self.assertEqual([spanned(GREAT, standing).width for standing in standings(GREAT)], [11] * 19)
        self.assertIs(is_right(GREAT), True)
        self.assertIn(GREAT.factors, right_factors(GREAT))
        self.assertEqual((divisor(GREAT, "s"), wrong_life(GREAT)), (0, None))
        wrong = GREAT.with_factors((-1, 1, 0, -1, 1, 7, -1, -1))
        self.assertEqual((is_right(wrong), divisor(wrong, "s"), len(wrong_life(wrong)[0])), (False, 7, 2))

    def test_what_is_mended_at_the_limits(self):
        self.assertEqual(blamed(LESS), ((),))
        self.assertEqual(least_mends(LESS.with_factors((-1, 1, 5, 4, -1))), ((2, 3),))
        for seed in range(3):
            book = drawn_book(seed, 3, 4, 1, 2, 6, 15, 2)
            for call in (least_mends, least_enough, blamed, idle):
                self.assertIs(type(call(book)), tuple)
            if least_mends(book):
                self.assertIs(is_right(mended(book, list(range(len(book))))), True)

    def test_what_is_shown_at_the_limits(self):
        told = paper(GREAT)
        self.assertEqual((paper_holds(GREAT, told), paper_holds(GREAT, told[::-1]), weights(GREAT)), (True, True, None))
        # More entries than standings can be told apart.
        self.assertIs(paper_holds(GREAT, (told * 40)[:400]), False)
        for seed in range(4):
            book = drawn_book(seed, 3, 5, 1, 2, 8, 16, 2, (-999, 999, 7), (999998, 999999, -999999, -999998))
            told = weights(book)
            self.assertIs(told is None, bool(right_factors(book)))
            if told is not None:
                self.assertIs(weights_hold(book, told), True)
                for many in (2, 60 // len(told)):
                    self.assertIs(weights_hold(book, told * many), weights_are_right(str(book), told * many))
        deeds = (("come", 999999999, "a"), *[("move", -999999999, "bcde"), ("move", 1, "a")] * 14)
        self.assertIs(weights_hold(HOPELESS["a half"], ((1, 2, deeds, "sum", "a"),) * 60), False)
        long = (("come", 7, "a"), *[("more", None, None)] * 29)
        book = book_of("rest open ; total sum ; worth sum open 1 one ; event come none to open amount group",
                       "event more open to open ; on more ; add 1 one sum new")
        self.assertIs(weights_hold(book, ((1, 29, long, "sum", "a"),) * 30), True)

    def test_what_is_alike_at_the_limits(self):
        head = ("rest k ; rest l ; total s ; total t ; note n ; worth s k 1 amount from 0 ; worth t l 1 one",
                "event come none to k amount group ; event put k l to l amount group ; event back l to k group")
        rows = ("on come ; add 1 new s new ; mark new ; put n new ; on put ; add -1 n s noted ; if not new below 0",
                "add 999 new s new ; end ; on back ; if moved ; mark old ; end ; put n old ; add -999 n s noted")
        p, q = book_of(*head, *rows), book_of(*[text.replace("note n", "note m").replace(" n ", " m ") for text in (*head, *rows)])
        self.assertEqual((len(p) + len(q), p.cuts, alike(p, q), always_alike(p, q), parting(p, q)), (8, (0,), True, True, None))
        other = q.with_factors((1, -1, 999, -998))
        self.assertEqual((alike(p, other), always_alike(p, other), len(parting(p, other)[0])), (False, False, 3))
        for seed in range(6):
            p = drawn_book(seed, 2, 3, 1, 1, 4, 12, 2, (-999, 999, 7), (999999, -999999))
            q = p.with_factors([factor + (at == 3) for at, factor in enumerate(p.factors)])
            self.assertIs(alike(p, p), True)
            self.assertIs(alike(p, q), 3 in idle(p))

    def test_a_store_at_its_limits(self):
        store = Store(Book.read(PLAIN))
        for at in range(60):
            store.do("x" if at == 0 else "y" if at == 1 else "xy"[at % 2], "come" if at < 2 else "set", (-1) ** at * 999999999,
                     "a" if at < 2 else None)
        self.assertEqual((len(store), store.kept("sum", "a"), store.off("sum", "a")), (60, 0, 0))
        self.assertEqual([store.undo() for _ in range(61)], [True] * 60 + [False])
        self.assertEqual(store.names, ())

    def test_drawn_books_at_the_limits(self):
        for seed in range(4):
            book = drawn_book(seed, 3, 5, 1, 2, 8, 16, 2, (-999, 999, 7), (999998, 999999, -999999, -999998))
            told = standings(book)
            self.assertEqual(spanned(book, told[-1]).width, 11)
            right = right_factors(book)
            self.assertIs(is_right(book), book.factors in right)
            if right:
                self.assertIs(is_right(book.with_factors(right.point)), True)

    def test_what_is_decided_somewhat_beyond(self):
        book = drawn_book(1, 3, 6, 2, 3, 10, 20, 2, (-10 ** 6, 10 ** 6), (10 ** 9, -10 ** 9, 10 ** 9 + 1, 0))
        self.assertEqual(spanned(book, standings(book)[0]).width, 14)
        self.assertIs(is_right(book), False)
        life = run_life(book, wrong_life(book)[0])
        self.assertIn(True, [life.off(total, "a") != 0 for total in book.totals])
        self.assertGreater(max(divisor(book, total) for total in book.totals), 0)
        self.assertEqual(len(idle(book)), len(set(idle(book))))

    def test_what_was_returned_is_taken(self):
        some = Factors(12, great_rows(1, 12, 4)[0], great_rows(11, 12))
        self.assertEqual(Factors(12, some.point, some.basis), some)
        self.assertEqual(Lattice(12, some.basis).basis, some.basis)
        solved = Factors.solving(12, some.basis, [0] * 11)
        self.assertEqual(len(solved.basis), 1)
        self.assertEqual([sum(a * b for a, b in zip(solved.basis[0], row)) for row in some.basis], [0] * 11)


if __name__ == "__main__":
    unittest.main()
