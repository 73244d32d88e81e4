"""Braid moves of rows of permutations, their orbits, sorted rows of swaps, and curves of Hurwitz."""

from branchsheets.demands import demand, demand_within
from branchsheets.errors import Refused
from branchsheets.permutations import is_permutation
from branchsheets.plainperms import exchanged, then, turned, turned_about, unit_of
from branchsheets.swaprows import final_swaps, SwapRow
from branchsheets.systems import demand_connected, is_cover
from branchsheets.walks import least_numbered, opposite_word, part_rows, row_product
from branchsheets.whole import is_integer

MOST_SHEETS = 12
MOST_PERMUTATIONS = 16
LONGEST_WORD = 40000
MOST_ORBIT_SHEETS = 8
MOST_CLASS_SHEETS = 10
MOST_ORBIT_PERMUTATIONS = 8
MOST_ROWS = 20000
MOST_CLASSES = 4000
MOST_CURVE_SHEETS = 24


def _is_row(value):
    if not (isinstance(value, tuple) and 1 <= len(value) <= MOST_PERMUTATIONS):
        return False
    if not all([is_permutation(p) and len(p) <= MOST_SHEETS for p in value]):
        return False
    return all([len(p) == len(value[0]) for p in value])


def _demand_row(row):
    demand(_is_row(row), "row of permutations")


def _moved_sheets(p):
    return tuple([x for x, y in enumerate(p) if x != y])


def is_swap_row(value):
    """True if the value is a row of swaps."""
    return _is_row(value) and all([len(_moved_sheets(p)) == 2 for p in value])


def demand_swap_rows(one, two):
    """Raises Malformed, for every value, if both are not rows of as many swaps of the same sheets."""
    demand(is_swap_row(one) and is_swap_row(two), "row of swaps")
    demand(len(one) == len(two) and len(one[0]) == len(two[0]), "rows of as many swaps of the same sheets")


def is_braid_word(value, r):
    """True if the value is a braid word of r permutations."""
    return isinstance(value, tuple) and all([is_integer(i) and 0 < abs(i) < r for i in value])


def led_by(row, word):
    """The row behind a braid word."""
    perms = list(row)
    for i in word:
        at = abs(i)
        p, q = perms[at - 1], perms[at]
        if i > 0:
            perms[at - 1:at + 1] = [q, turned_about(p, q)]
        else:
            perms[at - 1:at + 1] = [turned_about(q, turned(p)), p]
    return tuple(perms)


def braid_move(row, i):
    """The row behind a move, or its opposite."""
    _demand_row(row)
    demand(is_braid_word((i,), len(row)), "braid move")
    return led_by(row, (i,))


def braided_row(row, word):
    """The row behind a braid word."""
    _demand_row(row)
    demand(is_braid_word(word, len(row)) and len(word) <= LONGEST_WORD, "braid word")
    return led_by(row, word)


def _making_words(r):
    """Braid words of which all moves of r permutations are made."""
    # The move i between all moves in order and their opposites is the move i + 1 or i - 1, so both words make all
    # moves; and as there are finitely many rows, a word that is done often enough undoes itself.
    words = [(1,), tuple(range(1, r))]
    return words[:r - 1]


def _reached(start, steps, most):
    """The ascending tuple of all that some steps lead to; Refused if there is more than is taken."""
    found = {start: True}
    waiting = [start]
    while waiting:
        thing = waiting.pop()
        for ahead in steps(thing):
            if ahead not in found:
                found[ahead] = True
                waiting.append(ahead)
        demand_within(len(found), most, "many")
    return tuple(sorted(found))


def braid_orbit(row):
    """The ascending tuple of the orbit of a row."""
    _demand_row(row)
    demand_within(len(row[0]), MOST_ORBIT_SHEETS, "large")
    demand_within(len(row), MOST_ORBIT_PERMUTATIONS, "large")
    words = _making_words(len(row))
    return _reached(row, lambda perms: [led_by(perms, word) for word in words], MOST_ROWS)


def _led_class(S, word):
    """The least system of those that are alike to a system behind a braid word."""
    return least_numbered((S[0], led_by(S[1], word)))


def class_orbit(S):
    """The ascending tuple of the class orbit of a connected system."""
    demand_connected(S)
    demand(len(S[1]) > 0, "system with a permutation or more")
    demand_within(S[0], MOST_CLASS_SHEETS, "large")
    demand_within(len(S[1]), MOST_ORBIT_PERMUTATIONS, "large")
    words = _making_words(len(S[1]))
    return _reached(least_numbered(S), lambda T: [_led_class(T, word) for word in words], MOST_CLASSES)


def _demand_swap_row(row):
    demand(is_swap_row(row), "row of swaps")


def _joined_parts(row):
    """The parts of two sheets or more, ascending tuples, in order."""
    return [tuple(part) for part in part_rows(len(row[0]), row) if len(part) > 1]


def _swaps_within(row, part):
    """The number of the swaps of a part."""
    return len([p for p in row if _moved_sheets(p)[0] in part])


def _sorted_swaps(row):
    p = row_product(len(row[0]), row)
    swaps = []
    for part in _joined_parts(row):
        swaps.extend(final_swaps(p, part, _swaps_within(row, part)))
    return swaps


def sorted_row(row):
    """The sorted row of a row of swaps."""
    _demand_swap_row(row)
    unit = unit_of(len(row[0]))
    return tuple([exchanged(unit, a, b) for a, b in _sorted_swaps(row)])


def _sorting_moves(row):
    """The braid word that leads a row of swaps to its sorted row."""
    held = SwapRow([_moved_sheets(p) for p in row])
    parts = _joined_parts(row)
    held.sort_by({x: at for at, part in enumerate(parts) for x in part})
    low = 0
    for part in parts:
        high = low + _swaps_within(row, part)
        held.sort_part(low, high, part)
        low = high
    return tuple(held.word)


def sorting_word(row):
    """A braid word that leads a row of swaps to its sorted row."""
    _demand_swap_row(row)
    return _sorting_moves(row)


def joining_word(one, two):
    """A braid word that leads one row of swaps to another one, or None."""
    demand_swap_rows(one, two)
    if _sorted_swaps(one) != _sorted_swaps(two):
        return None
    return _sorting_moves(one) + opposite_word(_sorting_moves(two))


def swap_counts(row):
    """The pairs of a part of two sheets or more and the number of its swaps, in order."""
    _demand_swap_row(row)
    return tuple([(part, _swaps_within(row, part)) for part in _joined_parts(row)])


def _curve_rows(start):
    """A dict from the classes that the double moves reach to the pairs of those to which they lead."""
    rows = {}
    waiting = [start]
    while waiting:
        S = waiting.pop()
        if S not in rows:
            rows[S] = (_led_class(S, (1, 1)), _led_class(S, (2, 2)))
            waiting.extend(list(rows[S]))
        if len(rows) > MOST_CURVE_SHEETS:
            raise Refused("many")
    return rows


def curve_system(S):
    """The system that the double moves make on the classes of a cover with four permutations."""
    demand(is_cover(S) and len(S[1]) == 4, "cover with four permutations")
    demand_within(S[0], MOST_CLASS_SHEETS, "large")
    rows = _curve_rows(least_numbered(S))
    classes = sorted(rows)
    places = {T: at for at, T in enumerate(classes)}
    one = tuple([places[rows[T][0]] for T in classes])
    two = tuple([places[rows[T][1]] for T in classes])
    return (len(classes), (one, two, turned(then(one, two))))
