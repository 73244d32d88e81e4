"""What the commands of a worksheet lead to: systems, numbers, papers and their judges.

Items are those of a command, with systems in the place of the names that it uses.
"""

from branchsheets.cells import loop_rank
from branchsheets.classalgebra import class_constant, tuple_number
from branchsheets.coverings import connected_number, cover_number
from branchsheets.cutjoin import double_number
from branchsheets.decks import deck_maps, folded_system
from branchsheets.demands import demand
from branchsheets.fibreproducts import closure_system, part_system
from branchsheets.permutations import is_swap
from branchsheets.plainperms import exchanged, turned, unit_of
from branchsheets.rimhooks import rim_character
from branchsheets.systems import genus_of, is_system, least_system, restricted_system, system_beside, system_parts
from branchsheets.systems import told_system
from branchsheets.walks import row_product
from branchsheets.whole import integer_text, ratio_text

MOST_PERMUTATIONS = 12


def _plain_system(d, perms):
    demand(is_system((d, perms)), "system")
    return (d, perms)


def _swap_system(d, swaps):
    """The system whose permutations exchange the sheets of some swaps."""
    demand(is_system((d, ())) and len(swaps) <= MOST_PERMUTATIONS, "system")
    demand(all([is_swap(swap, d) for swap in swaps]), "swap")
    return (d, tuple([exchanged(unit_of(d), a, b) for a, b in swaps]))


def _closed_system(S):
    """The system with one permutation more, such that it is closed."""
    d, perms = S
    demand(len(perms) < MOST_PERMUTATIONS, "system with fewer permutations")
    return (d, perms + (turned(row_product(d, perms)),))


def _part_system(S, at):
    """The system restricted to the part with a number."""
    parts = system_parts(S)
    demand(0 <= at < len(parts), "part")
    return restricted_system(S, parts[at])


def made_system(word, items):
    """The system that a defining line makes."""
    makers = {
        "system": _plain_system, "swaps": _swap_system, "close": _closed_system, "least": least_system,
        "closure": closure_system, "beside": system_beside, "part": _part_system, "folded": folded_system,
        "told": told_system, "fibre": part_system,
    }
    maker = makers[word]
    return maker(*items)


def _deck_number(S):
    return len(deck_maps(S))


def _part_number(S):
    return len(system_parts(S))


def _types_number(d, types):
    return tuple_number(types, d)


def number_text(word, items):
    """The written form of the number that a line asks for; None if it asks for none."""
    if word == "double":
        r, mu, nu = items
        return ratio_text(double_number(mu, nu, r))
    makers = {
        "genus": genus_of, "decks": _deck_number, "parts": _part_number, "rank": loop_rank, "covers": cover_number,
        "connected": connected_number, "tuples": _types_number, "constant": class_constant,
        "character": rim_character,
    }
    if word not in makers:
        return None
    maker = makers[word]
    return integer_text(maker(*items))
