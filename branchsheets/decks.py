"""Maps of systems, deck maps, and blocks."""

from branchsheets.colours import first_numbered, folded_rows, is_kept_by, joined_by, neighbours_of
from branchsheets.demands import demand
from branchsheets.plainperms import cycle_rows
from branchsheets.systems import demand_connected, demand_rank, demand_sheet, demand_system, is_cover
from branchsheets.walks import letter_rows, opposite_word, walked, words_from
from branchsheets.whole import is_integer


def _demand_pair(S, T):
    demand_rank(S, T)
    demand_connected(S)
    demand_connected(T)


def _goes_with(S, T, f):
    """True if a row of sheets of T goes with all letters."""
    return all([f[y] == q[f[x]] for p, q in zip(S[1], T[1]) for x, y in enumerate(p)])


def is_system_map(S, T, value):
    """True if the value is a map of the system S into the system T."""
    demand_rank(S, T)
    if not (isinstance(value, tuple) and len(value) == S[0]):
        return False
    if not all([is_integer(y) and 0 <= y < T[0] for y in value]):
        return False
    return _goes_with(S, T, value)


def _led_row(words, T, y):
    """For each sheet of a system the sheet to which its leading word leads y."""
    rows = letter_rows(T[1])
    return tuple([walked(rows, y, w) for w in words])


def _map_with(S, T, words, y):
    """The map with f[0] = y, or None, words being the leading words from 0."""
    f = _led_row(words, T, y)
    return f if _goes_with(S, T, f) else None


def map_from(S, T, y):
    """The map of S into T with f[0] = y, or None."""
    _demand_pair(S, T)
    demand_sheet(T, y)
    return _map_with(S, T, words_from(S[0], S[1], 0), y)


def _all_maps(S, T):
    words = words_from(S[0], S[1], 0)
    rows = [_map_with(S, T, words, y) for y in range(T[0])]
    return tuple([f for f in rows if f is not None])


def system_maps(S, T):
    """The ascending tuple of all maps of S into T."""
    _demand_pair(S, T)
    return _all_maps(S, T)


def closing_word(S, T, y):
    """A word that is closed at 0 in S and not at y in T, or None."""
    _demand_pair(S, T)
    demand_sheet(T, y)
    words = words_from(S[0], S[1], 0)
    f = _led_row(words, T, y)
    for at, p in enumerate(S[1]):
        for x in range(S[0]):
            if f[p[x]] != T[1][at][f[x]]:
                # In T the way back leads to y from f[p[x]] alone, and it begins at another sheet.
                return words[x] + (at + 1,) + opposite_word(words[p[x]])
    return None


def alike_by(S, T):
    """The least renumbering of S into T, or None."""
    _demand_pair(S, T)
    if S[0] != T[0]:
        return None
    return min(_all_maps(S, T), default=None)


def deck_maps(S):
    """The ascending tuple of the deck maps."""
    demand_connected(S)
    return _all_maps(S, S)


def is_galois(S):
    """True if there are as many deck maps as sheets."""
    return len(deck_maps(S)) == S[0]


def deck_colouring(S):
    """The colouring by the orbits of all deck maps."""
    maps = deck_maps(S)
    # The deck maps are a group, so the least sheet that x is led to tells its orbit.
    return first_numbered([min([f[x] for f in maps]) for x in range(S[0])])


def is_block_colouring(S, value):
    """True if the value is a block colouring of the system S."""
    demand_system(S)
    if not (isinstance(value, tuple) and len(value) == S[0]):
        return False
    if not all([is_integer(colour) for colour in value]):
        return False
    return first_numbered(value) == value and is_kept_by(S[1], value)


def joining_blocks(S, x, y):
    """The least block colouring that joins two sheets."""
    demand_connected(S)
    demand_sheet(S, x)
    demand_sheet(S, y)
    return joined_by(S[0], S[1], [(x, y)])


def block_colourings(S):
    """The ascending tuple of all block colourings."""
    demand_connected(S)
    d, perms = S
    found = {tuple(range(d)): True}
    for y in range(1, d):
        least = joined_by(d, perms, [(0, y)])
        for colouring in list(found):
            found[_join_of(d, colouring, least)] = True
    return tuple(sorted(found))


def is_primitive(S):
    """True if there are just two block colourings."""
    demand_connected(S)
    d, perms = S
    return d > 1 and all([max(joined_by(d, perms, [(0, y)])) == 0 for y in range(1, d)])


def _demand_blocks(S, colouring):
    demand(is_block_colouring(S, colouring), "block colouring")


def folded_system(S, colouring):
    """The system whose sheets are the colours of a block colouring."""
    demand_connected(S)
    _demand_blocks(S, colouring)
    return (max(colouring) + 1, folded_rows(S[1], colouring))


def _join_of(d, one, two):
    return joined_by(d, (), neighbours_of(one) + neighbours_of(two))


def blocks_meet(S, one, two):
    """The block colouring in which sheets are alike if they are so in both."""
    demand_connected(S)
    _demand_blocks(S, one)
    _demand_blocks(S, two)
    return first_numbered(list(zip(one, two)))


def blocks_join(S, one, two):
    """The finest block colouring that is coarser than both."""
    demand_connected(S)
    _demand_blocks(S, one)
    _demand_blocks(S, two)
    return _join_of(S[0], one, two)


def branch_loss(S, T, f):
    """The branching of a map of covers: over all cycles of S, the length over that below, less 1."""
    demand(is_cover(S) and is_cover(T), "cover")
    demand(is_system_map(S, T, f), "map")
    loss = 0
    for p, q in zip(S[1], T[1]):
        below = {x: len(cycle) for cycle in cycle_rows(q) for x in cycle}
        for cycle in cycle_rows(p):
            loss += len(cycle) // below[f[cycle[0]]] - 1
    return loss
