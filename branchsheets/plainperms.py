"""Permutations without checks: who calls these has made sure of the forms."""


def unit_of(d):
    """The permutation that leaves each sheet where it is."""
    return tuple(range(d))


def then(p, q):
    """The product, p being done first."""
    return tuple([q[x] for x in p])


def exchanged(p, a, b):
    """The product of p and the swap of a and b."""
    return tuple([b if x == a else a if x == b else x for x in p])


def swaps_made(swaps, d):
    """The product of swaps of d sheets, in order."""
    product = unit_of(d)
    for a, b in swaps:
        product = exchanged(product, a, b)
    return product


def turned(p):
    """The inverse."""
    back = [0] * len(p)
    for x, y in enumerate(p):
        back[y] = x
    return tuple(back)


def cycle_rows(p):
    """The list of the cycles, each from its least sheet on, ascending."""
    seen = [False] * len(p)
    cycles = []
    for start in range(len(p)):
        cycle = []
        x = start
        while not seen[x]:
            seen[x] = True
            cycle.append(x)
            x = p[x]
        if cycle:
            cycles.append(tuple(cycle))
    return cycles


def lengths_of(p):
    """The partition of the lengths of the cycles."""
    return tuple(sorted([len(cycle) for cycle in cycle_rows(p)], reverse=True))


def from_cycles(d, cycles):
    """The permutation of d sheets that has these cycles and leaves the other sheets."""
    images = list(range(d))
    for cycle in cycles:
        for at, x in enumerate(cycle):
            images[cycle[at - 1]] = x
    return tuple(images)


def turned_about(p, f):
    """The permutation that leads f[x] to f[p[x]]."""
    images = [0] * len(p)
    for x, y in enumerate(p):
        images[f[x]] = f[y]
    return tuple(images)
