"""Standings: what comes behind the lives of one record, seen from a watched group, and the vectors that they span."""

from sumlives.basics import is_integer
from sumlives.errors import Mismatch
from sumlives.lattices import Lattice
from sumlives.steps import WATCHED, bare_ground, gone_state, statement_ground
from sumlives.walks import walked

WORDS = ("none", "own", "seen", "away")


def standing_of(state):
    """The standing that a state of one book is."""
    kind, cut, group, (mark,) = state
    if mark is None:
        noted = "none"
    elif mark == group:
        noted = "own"
    else:
        noted = "seen" if mark == WATCHED else "away"
    return kind, cut, group == WATCHED, noted


def state_of(value):
    """The state that a standing is, or None if the value, any, is no standing of a record of any kind."""
    if not isinstance(value, tuple) or len(value) != 4:
        return None
    kind, cut, own, noted = value
    if not isinstance(kind, str) or not is_integer(cut) or not isinstance(own, bool) or noted not in WORDS:
        return None
    if kind == "none":
        state = gone_state(1)
    else:
        group = WATCHED if own else WATCHED + 1
        marks = {"none": None, "own": group, "seen": WATCHED, "away": group + 1}
        state = (kind, cut, group, (marks[noted],))
    # A standing that does not go together is told otherwise by the state that is made of it.
    return state if standing_of(state) == value else None


def standings(book):
    """The standings of all lives with at least one deed."""
    return tuple(sorted(set([standing_of(state) for state in walked(bare_ground(book)).bases])))


def spanned(book, standing):
    """The lattice of the vectors of all lives with this standing."""
    state = state_of(standing)
    ground = statement_ground(book)
    bases = {} if state is None else walked(ground).bases
    if state not in bases:
        raise Mismatch()
    return Lattice(ground.width, bases[state])
