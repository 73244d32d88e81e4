"""The faces of a surface of a closed system, and loops by trees of sheets and of faces; without checks.

The edge (i, x) has the number (i - 1) d + x.
"""

from branchsheets.plainperms import cycle_rows


def edge_rows(S):
    """The list of the pairs of sheets that the edges lead from and to."""
    return [(x, y) for p in S[1] for x, y in enumerate(p)]


def face_rows(S):
    """The list of the faces, each a list of the edges that run round it: the petals, then the outer ones."""
    d, perms = S
    faces = []
    for at, p in enumerate(perms):
        for cycle in cycle_rows(p):
            faces.append([at * d + x for x in cycle])
    for start in range(d):
        face = []
        x = start
        for at, p in enumerate(perms):
            face.append(at * d + x)
            x = p[x]
        faces.append(face)
    return faces


def _sides_of(S):
    """For each edge the pair of its petal and its outer face."""
    sides = [[] for _ in edge_rows(S)]
    for at, face in enumerate(face_rows(S)):
        for edge in face:
            sides[edge].append(at)
    return [(sides[edge][0], sides[edge][1]) for edge in range(len(sides))]


def _tree_of(many, joined, barred):
    """For each of many things what joins it to a tree: None for a root, or (edge, other thing, is ahead).

    `joined` has the pair of things that each edge joins; `is ahead` tells that
    the edge leads from the other thing to this one. A thing stands behind the
    one it is joined to. Barred edges are not taken.
    """
    near = [[] for _ in range(many)]
    for edge, (x, y) in enumerate(joined):
        if edge not in barred:
            near[x].append((edge, y, True))
            near[y].append((edge, x, False))
    tree = {}
    for root in range(many):
        if root not in tree:
            tree[root] = None
            _grow_tree(tree, near, root)
    return tree


def _grow_tree(tree, near, root):
    found = [root]
    at = 0
    while at < len(found):
        x = found[at]
        for edge, y, ahead in near[x]:
            if y not in tree:
                tree[y] = (edge, x, ahead)
                found.append(y)
        at += 1


def _tree_edges(tree):
    return {step[0]: True for step in tree.values() if step is not None}


def _add_path(chain, tree, x, sign):
    """Adds to the chain, so many times, the way in the tree from its root to x."""
    while tree[x] is not None:
        edge, before, ahead = tree[x]
        chain[edge] += sign if ahead else -sign
        x = before


def loop_rows(S):
    """The list of the loop chains of the edges that are in neither tree, closed by the tree of sheets."""
    edges = edge_rows(S)
    sheets = _tree_of(S[0], edges, {})
    taken = _tree_edges(sheets)
    faces = _tree_of(len(face_rows(S)), _sides_of(S), taken)
    taken.update(_tree_edges(faces))
    loops = []
    for edge, (x, y) in enumerate(edges):
        if edge not in taken:
            chain = [0] * len(edges)
            chain[edge] = 1
            _add_path(chain, sheets, x, 1)
            _add_path(chain, sheets, y, -1)
            loops.append(tuple(chain))
    return loops


def levels_of_faces(S, a):
    """Numbers of times for the faces, such that both sides of each edge of a tree of faces add up to its number."""
    tree = _tree_of(len(face_rows(S)), _sides_of(S), {})
    times = [0] * len(tree)
    for face, step in tree.items():
        if step is not None:
            edge, before, _ = step
            times[face] = a[edge] - times[before]
    return times
