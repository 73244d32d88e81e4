"""What one swap makes of the type of a permutation, without checks."""

from branchsheets.partitions import part_counts


def _with_parts(mu, gone, come):
    """The partition mu with some parts taken out and others put in."""
    rest = list(mu)
    for part in gone:
        rest.remove(part)
    return tuple(sorted(rest + come, reverse=True))


def moves_from(mu):
    """A dict from the types to which a swap leads mu to the numbers of the swaps that do it."""
    counts = part_counts(mu)
    numbers = {}
    for at, (part, many) in enumerate(counts):
        for i in range(1, part // 2 + 1):
            ways = part // 2 if 2 * i == part else part
            numbers[_with_parts(mu, [part], [part - i, i])] = many * ways
        if many > 1:
            numbers[_with_parts(mu, [part, part], [2 * part])] = many * (many - 1) // 2 * part * part
        for less, more in counts[at + 1:]:
            numbers[_with_parts(mu, [part, less], [part + less])] = many * more * part * less
    return numbers


class MoveRows:
    """The moves from types; those that have been found once are kept."""

    def __init__(self):
        self.found = {}

    def moves_of(self, mu):
        if mu not in self.found:
            self.found[mu] = moves_from(mu)
        return self.found[mu]

    def led_once(self, numbers):
        """A dict from types to numbers, behind one swap more."""
        ahead = {}
        for mu, n in numbers.items():
            for nu, ways in self.moves_of(mu).items():
                ahead[nu] = ahead.get(nu, 0) + n * ways
        return ahead

    def led_rows(self, mu, r):
        """The dicts of the numbers that lead from mu to each type with 0, 1, .., r swaps."""
        rows = [{mu: 1}]
        for _ in range(r):
            rows.append(self.led_once(rows[-1]))
        return rows
