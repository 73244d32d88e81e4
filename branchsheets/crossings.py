"""Crossing numbers of loop chains of a closed system, without checks."""

from branchsheets.plainperms import turned


def _double_row(S, b):
    """For each edge what it adds to twice the crossing number of a loop chain with b."""
    d, perms = S
    backs = [turned(p) for p in perms]
    row = [0] * len(b)
    for x in range(d):
        # The ends round the point, with the sign of the edge there.
        ends = []
        for at, back in enumerate(backs):
            ends.append((at * d + x, 1))
            ends.append((at * d + back[x], -1))
        before = 0
        behind = sum([sign * b[edge] for edge, sign in ends])
        for edge, sign in ends:
            many = sign * b[edge]
            behind -= many
            row[edge] += sign * (behind - before)
            before += many
    return row


def crossing_rows(S, ones, others):
    """The tuple of the rows of the crossing numbers of some loop chains with others."""
    doubles = [_double_row(S, b) for b in others]
    table = []
    for a in ones:
        items = [(edge, many) for edge, many in enumerate(a) if many != 0]
        table.append(tuple([sum([many * row[edge] for edge, many in items]) // 2 for row in doubles]))
    return tuple(table)
