"""The judges of the papers of covers."""

from branchsheets.coverpapers import demand_blocks, demand_joined
from branchsheets.decks import is_block_colouring, is_system_map
from branchsheets.joins import join_two, root_of
from branchsheets.paperforms import is_form, is_place, is_tuple_of
from branchsheets.permutations import is_permutation
from branchsheets.systems import demand_connected, is_word, walk_word
from branchsheets.walks import letter_rows


def _is_closed_at(S, x, w):
    return walk_word(S, x, w) == x


def _are_words(value, S, T):
    """True if the value is a tuple of one word for each sheet of T."""
    return is_tuple_of(value, T[0]) and all([is_word(w, len(S[1])) for w in value])


def takes_alike(S, T, paper):
    """True if the paper shows that two connected systems are alike, or that they are not."""
    demand_joined(S, T)
    if is_form(paper, "alike", 1):
        f = paper[1]
        return S[0] == T[0] and is_permutation(f) and is_system_map(S, T, f)
    if is_form(paper, "apart", 1) and _are_words(paper[1], S, T):
        return all([_is_closed_at(S, 0, w) != _is_closed_at(T, y, w) for y, w in enumerate(paper[1])])
    return False


def takes_over(S, T, paper):
    """True if the paper shows that there is a map of S into T, or that there is none."""
    demand_joined(S, T)
    if is_form(paper, "over", 1):
        return is_system_map(S, T, paper[1])
    if is_form(paper, "none", 1) and _are_words(paper[1], S, T):
        return all([_is_closed_at(S, 0, w) and not _is_closed_at(T, y, w) for y, w in enumerate(paper[1])])
    return False


def _are_deck_maps(S, value):
    """True if the value is a tuple of one deck map for each sheet, that leads 0 to it."""
    return is_tuple_of(value, S[0]) and all([is_system_map(S, S, f) and f[0] == y for y, f in enumerate(value)])


def takes_galois(S, paper):
    """True if the paper shows that a connected system is Galois, or that it is not."""
    demand_connected(S)
    if is_form(paper, "galois", 1):
        return _are_deck_maps(S, paper[1])
    if is_form(paper, "uneven", 2):
        _, y, w = paper
        if is_place(y, S[0]) and is_word(w, len(S[1])):
            return _is_closed_at(S, 0, w) and not _is_closed_at(S, y, w)
    return False


def _is_triple(value, S):
    if not is_tuple_of(value, 3):
        return False
    u, v, i = value
    return is_place(u, S[0]) and is_place(v, S[0]) and is_word((i,), len(S[1]))


def _joins_all(S, y, row):
    """True if a row of triples joins all sheets, once 0 and y are joined, step by step."""
    if not (isinstance(row, tuple) and all([_is_triple(triple, S) for triple in row])):
        return False
    led = letter_rows(S[1])
    above = list(range(S[0]))
    join_two(above, 0, y)
    for u, v, i in row:
        if root_of(above, u) != root_of(above, v):
            return False
        join_two(above, led[i][u], led[i][v])
    return all([root_of(above, x) == 0 for x in range(S[0])])


def takes_blocks(S, paper):
    """True if the paper shows that a connected system has blocks, or that it is primitive."""
    demand_blocks(S)
    if is_form(paper, "blocks", 1):
        colouring = paper[1]
        return is_block_colouring(S, colouring) and 0 < max(colouring) < S[0] - 1
    if is_form(paper, "primitive", 1):
        rows = paper[1]
        return is_tuple_of(rows, S[0] - 1) and all([_joins_all(S, at + 1, row) for at, row in enumerate(rows)])
    return False
