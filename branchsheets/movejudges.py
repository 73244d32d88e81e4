"""The judges of the papers of braids of swaps, of walks of types, and of monodromy graphs."""

from branchsheets.braids import demand_swap_rows, is_braid_word, led_by, swap_counts
from branchsheets.cutjoin import demand_walk, double_number, is_type_walk, share_number
from branchsheets.paperforms import is_form, is_tuple_of
from branchsheets.walkgraphs import demand_listed, is_walk_graph, types_of, weights_together
from branchsheets.walks import part_rows, row_product
from branchsheets.whole import is_integer, is_ratio


def takes_braid(one, two, paper):
    """True if the paper shows that braid moves lead one row of swaps to another one, or that they do not."""
    demand_swap_rows(one, two)
    d = len(one[0])
    if is_form(paper, "braid", 1):
        return is_braid_word(paper[1], len(one)) and led_by(one, paper[1]) == two
    if is_form(paper, "product", 0):
        return row_product(d, one) != row_product(d, two)
    if is_form(paper, "parts", 0):
        return part_rows(d, one) != part_rows(d, two)
    if is_form(paper, "counts", 0):
        return part_rows(d, one) == part_rows(d, two) and swap_counts(one) != swap_counts(two)
    return False


def takes_walk(mu, nu, r, paper):
    """True if the paper shows that there is a walk of types with r moves, or that there is none."""
    demand_walk(mu, nu, r)
    ends = len(mu) + len(nu)
    if is_form(paper, "walk", 1):
        return is_tuple_of(paper[1], r + 1) and is_type_walk(paper[1], mu, nu)
    if is_form(paper, "odd", 0):
        return (r + ends) & 1 == 1
    if is_form(paper, "short", 1):
        k = paper[1]
        return is_integer(k) and k == share_number(mu, nu) and r < ends - 2 * k
    if is_form(paper, "still", 0):
        return sum(mu) < 2 and r > 0
    return False


def _are_graphs(value, mu, nu, r):
    """True if the value is an ascending tuple of unlike monodromy graphs with r moves and these types."""
    if not isinstance(value, tuple):
        return False
    if not all([is_walk_graph(graph, r) and types_of(graph, r) == (mu, nu) for graph in value]):
        return False
    return all([value[at] < value[at + 1] for at in range(len(value) - 1)])


def takes_graphs(mu, nu, r, paper):
    """True if the paper has all monodromy graphs with r moves and these types, and the sum of their weights."""
    demand_listed(mu, nu, r)
    if not is_form(paper, "graphs", 2):
        return False
    _, c, graphs = paper
    if not (is_ratio(c) and c == double_number(mu, nu, r) and _are_graphs(graphs, mu, nu, r)):
        return False
    return weights_together(graphs, r) == c
