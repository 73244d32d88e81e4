"""All monodromy graphs with a left type, vertex by vertex, without checks.

A graph that is cut through behind its vertex i is kept as a pair (edges, strands):
its edges that end there or before, and the ascending tuple of the pairs (u, w) of
the edges that are cut, which come out of u and have the weight w. The cut graph and
what the next vertex does tell the graph, so no graph is found twice.
"""


def first_state(mu):
    """The graph without a vertex."""
    return ((), tuple([(0, w) for w in mu[::-1]]))


def _strand_counts(strands):
    """A dict from each strand to its number, ascending."""
    counts = {}
    for strand in strands:
        counts[strand] = counts.get(strand, 0) + 1
    return counts


def _behind(state, gone, weights, v):
    """The state when some strands go into the vertex v, and edges of some weights come out."""
    edges, strands = state
    rest = list(strands)
    for strand in gone:
        rest.remove(strand)
    ends = tuple([(u, v, w) for u, w in gone])
    return (edges + ends, tuple(sorted(rest + [(v, w) for w in weights])))


def states_behind(state, v):
    """The states to which a join or a cut at the vertex v leads."""
    counts = _strand_counts(state[1])
    strands = list(counts)
    found = []
    for at, one in enumerate(strands):
        partners = strands[at + 1:] + ([one] if counts[one] > 1 else [])
        for two in partners:
            found.append(_behind(state, [one, two], [one[1] + two[1]], v))
        for w in range(1, one[1] // 2 + 1):
            found.append(_behind(state, [one], [w, one[1] - w], v))
    return found


def right_type(state):
    """The weights of the edges that are cut, the greatest first."""
    return tuple(sorted([w for _, w in state[1]], reverse=True))


def graph_of(state, r):
    """The graph with r moves whose strands go to the right end."""
    edges, strands = state
    return tuple(sorted(edges + tuple([(u, r + 1, w) for u, w in strands])))
