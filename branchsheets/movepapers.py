"""Papers of braids of swaps, of walks of types, and of monodromy graphs."""

from branchsheets.braids import demand_swap_rows, joining_word
from branchsheets.cutjoin import least_moves, share_number, type_walk
from branchsheets.walkgraphs import graph_sum, walk_graphs
from branchsheets.walks import part_rows, row_product


def braid_paper(one, two):
    """A paper that braid moves lead one row of swaps to another one, or that they do not."""
    demand_swap_rows(one, two)
    word = joining_word(one, two)
    if word is not None:
        return ("braid", word)
    d = len(one[0])
    if row_product(d, one) != row_product(d, two):
        return ("product",)
    if part_rows(d, one) != part_rows(d, two):
        return ("parts",)
    return ("counts",)


def walk_paper(mu, nu, r):
    """A paper that there is a walk of types with r moves, or that there is none."""
    types = type_walk(mu, nu, r)
    if types is not None:
        return ("walk", types)
    if (r + len(mu) + len(nu)) & 1:
        return ("odd",)
    if r < least_moves(mu, nu):
        return ("short", share_number(mu, nu))
    # What is left is a swap of less than two sheets.
    return ("still",)


def graphs_paper(mu, nu, r):
    """The paper of all monodromy graphs with r moves and these types, and of the sum of their weights."""
    graphs = walk_graphs(mu, nu, r)
    return ("graphs", graph_sum(mu, nu, r), graphs)
