"""Rim hooks and characters without checks: who calls these has made sure of the forms."""

from branchsheets.partitions import partitions_of


def hooks_off(lam, m):
    """The pairs of what is left of lam without a rim hook of m cells, and the height of the hook."""
    last = len(lam) - 1
    numbers = [part + last - i for i, part in enumerate(lam)]
    found = []
    for b in numbers:
        if b >= m and b - m not in numbers:
            height = len([n for n in numbers if b - m < n < b])
            kept = sorted([n for n in numbers if n != b] + [b - m], reverse=True)
            rest = [n - last + i for i, n in enumerate(kept)]
            found.append((tuple([part for part in rest if part > 0]), height))
    return found


def character_at(lam, mu):
    """The character number of lam at mu."""
    factors = {lam: 1}
    for m in mu:
        ahead = {}
        # A copy, because the dict that is filled gets the name of the one that is walked.
        for kept, factor in list(factors.items()):
            for rest, height in hooks_off(kept, m):
                ahead[rest] = ahead.get(rest, 0) + (-factor if height & 1 else factor)
        factors = ahead
    return factors.get((), 0)


def character_column(mu):
    """A dict from all partitions of the sum of mu, ascending, to their character numbers at mu."""
    column = {(): 1}
    d = 0
    for m in mu[::-1]:
        d += m
        wider = {}
        for lam in partitions_of(d):
            signed = [-column[rest] if height & 1 else column[rest] for rest, height in hooks_off(lam, m)]
            wider[lam] = sum(signed)
        column = wider
    return column


def hook_rows(lam):
    """The rows of the hook lengths, one for each part."""
    rows = []
    for i, part in enumerate(lam):
        below = [len([other for other in lam[i + 1:] if other > j]) for j in range(part)]
        rows.append(tuple([part - j + below[j] for j in range(part)]))
    return rows


def hook_product(lam):
    """The product of all hook lengths."""
    product = 1
    for row in hook_rows(lam):
        for length in row:
            product = product * length
    return product
