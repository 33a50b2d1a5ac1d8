"""What the tests share: values that are wrong, errors, great vectors, sums of vectors, books, and tests of orders."""

from sumlives.books import Book
from sumlives.desk import Desk
from sumlives.errors import SumError
from sumlives.lattices import Lattice
from sumlives.lives import run_life
from sumlives.parts import Event, Handler, Worth
from sumlives.rows import Add, If, Mark, Moved, Not, Put, Was
from sumlives.store import Store
from sumlives.systems import Factors

NO_INTEGERS = [None, True, False, "", "1", "one", (), (1,), [1], []]
NO_SEQUENCES = [None, True, False, 0, 1, "", "ab"]
# Words and letters that are not let by, and values of other kinds. (Among the letters: e with an accent, a Greek
# and a Cyrillic one, a ligature, a wide one, and a small one that stands above the line.)
NO_NAMES = ["", "none", "to", "old", "new", "one", "not", "noted", "amount", "abcde", "A", "aB", "Abcd", "a1", "1",
            "a b", " a", "a ", "a\n", "\n", "a_b", "a-b", "\u00e9", "\u03b1", "\u0430", "\ufb01", "\uff41", "\u1d43",
            None, True, False, 0, 1, -5, (), [], ("a",), ["a"], [["a"]], (None,)]

PLAIN = ("rest open\ntotal sum\nworth sum open 1 amount\nevent come none to open amount group\n"
         "event set open to open amount\nevent go open to none\n"
         "on come\nadd 1 new sum new\non set\nadd 1 new sum new\nadd -1 old sum new\non go\nadd -1 old sum old")


def package_objects():
    """An object of each class of the package but those of errors."""
    book = Book.read(PLAIN)
    rows = [Add(1, "one", "sum", "new"), Put("n", "old"), Mark("old"), If(Moved(), ())]
    parts = [Event("come", ["none"], "open", True, True), Worth("sum", "open", 1, "one"), Handler("come")]
    return [*rows, Was("open"), Moved(), Not(Moved()), *parts, book, run_life(book, ()), Lattice(1, [(2,)]),
            Factors.every(1), Factors(1), Store(book), Desk()]


def but(values, *others):
    """The values that are none of the others."""
    return [value for value in values if value not in others]


def raised(call, *arguments):
    """The name of the error of the package that a call raises and what the error keeps, or None."""
    try:
        call(*arguments)
    except SumError as error:
        return (type(error).__name__, *vars(error).values())
    return None


def assert_wrong_arguments(case, make, table, error):
    """Tests what a constructor says of wrong arguments; the table has for each of them a right value, wrong ones,
    and the word that is told. The first one that is wrong counts, whatever the others are."""
    right = [good for good, _, _ in table]
    case.assertIsNone(raised(make, *right))
    for at, (_, wrong, word) in enumerate(table):
        for value in wrong:
            with case.subTest(at=at, value=value):
                case.assertEqual(raised(make, *right[:at], value, *right[at + 1:]), (error, word))
        for later in range(at + 1, len(table)):
            for value in table[later][1]:
                both = [*right[:at], wrong[0], *right[at + 1:later], value, *right[later + 1:]]
                with case.subTest(at=at, later=later, value=value):
                    case.assertEqual(raised(make, *both), (error, word))
        with case.subTest(at=at, later="all"):
            case.assertEqual(raised(make, *right[:at], *[wrong[-1] for _, wrong, _ in table[at:]]), (error, word))


def no_vectors(width):
    """Values that are no vectors of this width."""
    wrong = list(NO_SEQUENCES) + [[1] * width, (1,) * (width + 1), (1,) * (width - 1), [(1,) * width], ((1,) * width,)]
    return wrong + [(value,) + (1,) * (width - 1) for value in NO_INTEGERS]


def no_rows(width):
    """Values that are no lists or tuples of vectors of this width."""
    good = (1,) * width
    return list(NO_SEQUENCES) + [good] + [[value] for value in no_vectors(width)] + [
        (good, value) for value in no_vectors(width)]


def great_rows(many, width, seed=1):
    """So many vectors with numbers of nine digits and either sign, the same ones each time."""
    rows = []
    for _ in range(many):
        row = []
        for _ in range(width):
            seed = (seed * 6364136223846793005 + 1442695040888963407) % (1 << 64)
            row.append((seed >> 20) % 1999999999 - 999999999)
        rows.append(tuple(row))
    return rows


def sums(rows, least, most):
    """All sums of the rows, each taken from `least` to `most` times."""
    found = {(0,) * len(rows[0])} if rows else set()
    for row in rows:
        found = {tuple(a + times * b for a, b in zip(vector, row))
                 for vector in found for times in range(least, most + 1)}
    return found


def assert_order(case, p, q, part, whole):
    """Tests that p is a part of q, or is none, and that q is one of p, or is none."""
    case.assertIs(p <= q, part)
    case.assertIs(p >= q, whole)
    case.assertIs(p < q, part and not whole)
    case.assertIs(p > q, whole and not part)
    for one, other in ((p, q), (q, p)):
        case.assertIs(one == other, part and whole)
        case.assertIs(one != other, not (part and whole))
