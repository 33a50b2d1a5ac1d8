"""What the tests share: values that are wrong, great vectors, sums of vectors, and the test of an order."""

NO_INTEGERS = [None, True, False, "", "1", "one", (), (1,), [1], []]
NO_SEQUENCES = [None, True, False, 0, 1, "", "ab"]


def no_vectors(width):
    """Values that are no vectors of this width."""
    wrong = list(NO_SEQUENCES) + [[1] * width, (1,) * (width + 1), (1,) * (width - 1), [(1,) * width], ((1,) * width,)]
    return wrong + [(value,) + (1,) * (width - 1) for value in NO_INTEGERS]


def no_rows(width):
    """Values that are no lists or tuples of vectors of this width."""
    good = (1,) * width
    return list(NO_SEQUENCES) + [good] + [[value] for value in no_vectors(width)] + [
        (good, value) for value in no_vectors(width)]


def great_rows(many, width, seed=1):
    """So many vectors with numbers of nine digits and either sign, the same ones each time."""
    rows = []
    for _ in range(many):
        row = []
        for _ in range(width):
            seed = (seed * 6364136223846793005 + 1442695040888963407) % (1 << 64)
            row.append((seed >> 20) % 1999999999 - 999999999)
        rows.append(tuple(row))
    return rows


def sums(rows, least, most):
    """All sums of the rows, each taken from `least` to `most` times."""
    found = {(0,) * len(rows[0])} if rows else set()
    for row in rows:
        found = {tuple(a + times * b for a, b in zip(vector, row))
                 for vector in found for times in range(least, most + 1)}
    return found


def assert_order(case, p, q, part, whole):
    """Tests that p is a part of q, or is none, and that q is one of p, or is none."""
    case.assertIs(p <= q, part)
    case.assertIs(p >= q, whole)
    case.assertIs(p < q, part and not whole)
    case.assertIs(p > q, whole and not part)
    for one, other in ((p, q), (q, p)):
        case.assertIs(one == other, part and whole)
        case.assertIs(one != other, not (part and whole))
