"""The faces of a surface of a closed system, and loops by trees of sheets and of faces; without checks.

The edge (i, x) has the number (i - 1) d + x.
"""

from branchsheets.plainperms import cycle_rows


def edge_rows(S):
    """The list of the pairs of sheets that the edges lead from and to."""
    return [(x, y) for p in S[1] for x, y in enumerate(p)]


def face_rows(S):
    """The list of the faces, each a list of the edges that run round it: the petals, then the outer ones."""
    d, perms = S
    faces = []
    for at, p in enumerate(perms):
        for cycle in cycle_rows(p):
            faces.append([at * d + x for x in cycle])
    for start in range(d):
        face = []
        x = start
        for at, p in enumerate(perms):
            face.append(at * d + x)
            x = p[x]
        faces.append(face)
    return faces


def _sides_of(S):
    """For each edge the pair of its petal and its outer face."""
    sides = [[] for _ in edge_rows(S)]
    for at, face in enumerate(face_rows(S)):
        for edge in face:
            sides[edge].append(at)
    return [(sides[edge][0], sides[edge][1]) for edge in range(len(sides))]


def _tree_of(many, joined, barred):
    """For each of many things what joins it to a tree: None for a root, or (edge, other thing, is ahead).

    `joined` has the pair of things that each edge joins; `is ahead` tells that
    the edge leads from the other thing to this one. A thing stands behind the
    one it is joined to. Barred edges are not taken.
    """
    near = [[] for _ in range(many)]
    for edge, (x, y) in enumerate(joined):
        if edge not in barred:
            near[x].append((edge, y, True))
            near[y].append((edge, x, False))
    tree = {}
    for root in range(many):
        if root not in tree:
            tree[root] = None
            _grow_tree(tree, near, root)
    return tree


def _grow_tree(tree, near, root):
    found = [root]
    at = 0
    while at < len(found):
        x = found[at]
        for edge, y, ahead in near[x]:
            if y not in tree:
                tree[y] = (edge, x, ahead)
                found.append(y)
        at += 1


def _tree_edges(tree):
    return {step[0]: True for step in tree.values() if step is not None}


def _add_path(chain, tree, x, sign):
    """Adds to the chain, so many times, the way in the tree from its root to x."""
    while tree[x] is not None:
        edge, before, ahead = tree[x]
        chain[edge] += sign if ahead else -sign
        x = before


def _two_trees(S):
    """A tree of the sheets, a tree of the faces that takes none of its edges, and a dict of the edges of both."""
    sheets = _tree_of(S[0], edge_rows(S), {})
    taken = _tree_edges(sheets)
    faces = _tree_of(len(face_rows(S)), _sides_of(S), taken)
    taken.update(_tree_edges(faces))
    return (sheets, faces, taken)


def loop_rows(S):
    """The list of the loop chains of the edges that are in neither tree, closed by the tree of sheets."""
    sheets, _, taken = _two_trees(S)
    edges = edge_rows(S)
    loops = []
    for edge, (x, y) in enumerate(edges):
        if edge not in taken:
            chain = [0] * len(edges)
            chain[edge] = 1
            _add_path(chain, sheets, x, 1)
            _add_path(chain, sheets, y, -1)
            loops.append(tuple(chain))
    return loops


def loop_factors(S, a):
    """How often a loop chain has, up to a filled one, each of the loops of `loop_rows`."""
    _, faces, taken = _two_trees(S)
    # Less these faces nothing is left on the tree of faces; and what is left on that of sheets is told by the loops.
    filled = faces_chain(S, face_rows(S), _levels_in(faces, a))
    return [many - less for edge, (many, less) in enumerate(zip(a, filled)) if edge not in taken]


def _levels_in(tree, a):
    """Numbers of times for the faces, such that both sides of each edge of the tree add up to its number."""
    times = [0] * len(tree)
    for face, step in tree.items():
        if step is not None:
            edge, before, _ = step
            times[face] = a[edge] - times[before]
    return times


def levels_of_faces(S, a):
    """Such numbers of times for some tree of faces."""
    return _levels_in(_tree_of(len(face_rows(S)), _sides_of(S), {}), a)


def faces_chain(S, faces, times):
    """The chain that has the edges of some faces, of each face so many times."""
    chain = [0] * (len(S[1]) * S[0])
    for face, many in zip(faces, times):
        for edge in face:
            chain[edge] += many
    return tuple(chain)


def led_chain(S, f, a):
    """The chain to which a deck map leads a chain."""
    d = S[0]
    moved = [0] * len(a)
    for at, many in enumerate(a):
        moved[at - at % d + f[at % d]] = many
    return tuple(moved)
