"""Monodromy graphs: their weights, pieces and walks, and all graphs of given types."""

from branchsheets.demands import demand, demand_within
from branchsheets.errors import Refused
from branchsheets.graphlayers import first_state, graph_of, right_type, states_behind
from branchsheets.joins import join_two, root_of
from branchsheets.partitions import demand_pair
from branchsheets.permutations import is_permutation, is_swap
from branchsheets.plainperms import cycle_rows, exchanged
from branchsheets.whole import factorial_of, is_integer, ratio, ratio_sum

MOST_MOVES = 30
MOST_SHEETS = 24
MOST_LISTED_MOVES = 12
MOST_LISTED_SHEETS = 12
MOST_GRAPHS = 20000


def _is_edge(value, r):
    if not (isinstance(value, tuple) and len(value) == 3 and all([is_integer(n) for n in value])):
        return False
    u, v, w = value
    return 0 <= u < v <= r + 1 and w > 0


def _is_ascending(rows):
    return all([rows[at] <= rows[at + 1] for at in range(len(rows) - 1)])


def _is_move(graph, v):
    """True if three edges meet at the vertex v, not all of them on one side, and the weights are kept."""
    ahead = [edge[2] for edge in graph if edge[1] == v]
    behind = [edge[2] for edge in graph if edge[0] == v]
    # Weights are above 0, so equal sums leave no side without an edge.
    return len(ahead) + len(behind) == 3 and sum(ahead) == sum(behind)


def is_walk_graph(value, r):
    """True if the value is a monodromy graph with r moves."""
    demand(is_integer(r) and 0 <= r <= MOST_MOVES, "number of moves")
    if not (isinstance(value, tuple) and all([_is_edge(edge, r) for edge in value])):
        return False
    return _is_ascending(value) and all([_is_move(value, v) for v in range(1, r + 1)])


def _demand_graph(graph, r):
    demand(is_walk_graph(graph, r), "monodromy graph")


def _descending(weights):
    return tuple(sorted(weights, reverse=True))


def types_of(graph, r):
    """The left type and the right type of what is known to be a graph."""
    left = _descending([w for u, _, w in graph if u == 0])
    return (left, _descending([w for _, v, w in graph if v == r + 1]))


def graph_types(graph, r):
    """The pair of the left type and the right type."""
    _demand_graph(graph, r)
    return types_of(graph, r)


def _turns_of(graph):
    counts = {}
    for edge in graph:
        counts[edge] = counts.get(edge, 0) + 1
    turns = 1
    for many in counts.values():
        turns = turns * factorial_of(many)
    return turns


def _weight_of(graph, r):
    above, below = 1, _turns_of(graph)
    for u, v, w in graph:
        if u > 0 and v <= r:
            above = above * w
        elif u == 0 and v == r + 1:
            below = below * w
    return ratio(above, below)


def graph_weight(graph, r):
    """The weights of the inner edges over those of the edges that go through, and over the automorphisms."""
    _demand_graph(graph, r)
    return _weight_of(graph, r)


def graph_turns(graph, r):
    """The number of the automorphisms."""
    _demand_graph(graph, r)
    return _turns_of(graph)


def _pieces_of(graph, r):
    """The pieces, ascending."""
    above = list(range(r + 1))
    for u, v, _ in graph:
        if u > 0 and v <= r:
            join_two(above, u, v)
    pieces = {}
    through = []
    for edge in graph:
        u, v, _ = edge
        if u == 0 and v == r + 1:
            through.append((edge,))
        else:
            pieces.setdefault(root_of(above, u if u > 0 else v), []).append(edge)
    return sorted(through + [tuple(edges) for edges in pieces.values()])


def graph_pieces(graph, r):
    """The ascending tuple of the pieces, each one an ascending tuple of its edges."""
    _demand_graph(graph, r)
    return tuple(_pieces_of(graph, r))


def graph_genus(graph, r):
    """The genus of a connected graph."""
    _demand_graph(graph, r)
    demand(len(_pieces_of(graph, r)) == 1, "connected graph")
    if r == 0:
        return 0
    return len([edge for edge in graph if edge[0] > 0 and edge[1] <= r]) - r + 1


def graph_walk(graph, r):
    """The walk of types of a graph."""
    _demand_graph(graph, r)
    return tuple([_descending([w for u, v, w in graph if u <= i < v]) for i in range(r + 1)])


def turned_graph(graph, r):
    """The graph turned about."""
    _demand_graph(graph, r)
    return tuple(sorted([(r + 1 - v, r + 1 - u, w) for u, v, w in graph]))


def drawn_graph(a, swaps):
    """The graph that a permutation and swaps draw."""
    demand(is_permutation(a) and len(a) <= MOST_SHEETS, "permutation")
    demand(isinstance(swaps, tuple) and len(swaps) <= MOST_MOVES, "tuple of swaps")
    demand(all([is_swap(swap, len(a)) for swap in swaps]), "tuple of swaps")
    edges = []
    # For each cycle the vertex that it comes out of.
    begun = {cycle: 0 for cycle in cycle_rows(a)}
    p = a
    for at, (x, y) in enumerate(swaps):
        touched = [cycle for cycle in begun if x in cycle or y in cycle]
        for cycle in touched:
            edges.append((begun[cycle], at + 1, len(cycle)))
            del begun[cycle]
        p = exchanged(p, x, y)
        for cycle in cycle_rows(p):
            if x in cycle or y in cycle:
                begun[cycle] = at + 1
    edges.extend([(u, len(swaps) + 1, len(cycle)) for cycle, u in begun.items()])
    return tuple(sorted(edges))


def demand_listed(mu, nu, r):
    """Raises Malformed, for every value, or Refused, if the graphs with r moves and these types are not listed."""
    demand_pair(mu, nu)
    demand(is_integer(r) and r >= 0, "number of moves")
    demand_within(sum(mu), MOST_LISTED_SHEETS, "large")
    demand_within(r, MOST_LISTED_MOVES, "large")


def _graphs_of(mu, nu, r):
    """The ascending list of all monodromy graphs with r moves and these types."""
    demand_listed(mu, nu, r)
    states = [first_state(mu)]
    for v in range(1, r + 1):
        found = []
        # A copy, because the list that grows gets the name of the one that is walked.
        for state in list(states):
            found.extend(states_behind(state, v))
            if len(found) > MOST_GRAPHS:
                raise Refused("many")
        states = found
    return sorted([graph_of(state, r) for state in states if right_type(state) == nu])


def walk_graphs(mu, nu, r):
    """The ascending tuple of all monodromy graphs with r moves and these types."""
    return tuple(_graphs_of(mu, nu, r))


def weights_together(graphs, r):
    """The sum of the weights of what are known to be graphs."""
    total = (0, 1)
    for graph in graphs:
        total = ratio_sum(total, _weight_of(graph, r))
    return total


def graph_sum(mu, nu, r):
    """The sum of the weights of all graphs."""
    return weights_together(_graphs_of(mu, nu, r), r)


def connected_sum(mu, nu, r):
    """The sum of the weights of the connected graphs."""
    return weights_together([graph for graph in _graphs_of(mu, nu, r) if len(_pieces_of(graph, r)) == 1], r)
