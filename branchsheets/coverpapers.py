"""Papers that show what covers have to do with each other, and what they are above."""

from branchsheets.decks import alike_by, block_colourings, closing_word, deck_maps, map_from, system_maps
from branchsheets.demands import demand
from branchsheets.joins import join_two
from branchsheets.systems import demand_connected, demand_rank, numbered_from


def demand_joined(S, T):
    """Raises Malformed, for every value, if both are not connected systems of one rank."""
    demand_rank(S, T)
    demand_connected(S)
    demand_connected(T)


def demand_blocks(S):
    """Raises Malformed, for every value, if it is no connected system with 2 sheets or more."""
    demand_connected(S)
    demand(S[0] > 1, "system with 2 sheets or more")


def _parting_word(S, T, y):
    """A word that is closed at the sheet 0 of S or at the sheet y of T, and not at both, if there is one."""
    w = closing_word(S, T, y)
    # If all words that are closed at 0 are closed at y, some word is closed at y alone.
    return closing_word(numbered_from(T, y), S, 0) if w is None else w


def alike_paper(S, T):
    """A paper that two connected systems are alike, or that they are not."""
    demand_joined(S, T)
    f = alike_by(S, T)
    if f is not None:
        return ("alike", f)
    return ("apart", tuple([_parting_word(S, T, y) for y in range(T[0])]))


def over_paper(S, T):
    """A paper that there is a map of S into T, or that there is none."""
    demand_joined(S, T)
    maps = system_maps(S, T)
    if maps:
        return ("over", maps[0])
    return ("none", tuple([closing_word(S, T, y) for y in range(T[0])]))


def galois_paper(S):
    """A paper that a connected system is Galois, or that it is not."""
    demand_connected(S)
    if len(deck_maps(S)) == S[0]:
        return ("galois", tuple([map_from(S, S, y) for y in range(S[0])]))
    y = [x for x in range(S[0]) if map_from(S, S, x) is None][0]
    return ("uneven", y, closing_word(S, S, y))


def _joining_triples(S, y):
    """The triples that join all sheets, once 0 and y are joined, of a primitive system."""
    above = list(range(S[0]))
    join_two(above, 0, y)
    waiting = [(0, y)]
    triples = []
    while waiting:
        u, v = waiting.pop()
        for at, p in enumerate(S[1]):
            if join_two(above, p[u], p[v]):
                triples.append((u, v, at + 1))
                waiting.append((p[u], p[v]))
    return tuple(triples)


def blocks_paper(S):
    """A paper that a connected system has blocks, or that it is primitive."""
    demand_blocks(S)
    for colouring in block_colourings(S):
        if 0 < max(colouring) < S[0] - 1:
            return ("blocks", colouring)
    return ("primitive", tuple([_joining_triples(S, y) for y in range(1, S[0])]))
