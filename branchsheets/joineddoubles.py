"""Connected double numbers with marked cycles, without checks.

All numbers are taken as often as the product of the parts of the first type tells:
so they are integers, and the product of two of them is that of both taken together.
"""

from branchsheets.partchoices import choices_by_sum, choices_from
from branchsheets.partitions import repeat_number
from branchsheets.typemoves import MoveRows
from branchsheets.whole import chosen_of


def _take_away(numbers, ways, one, two):
    """Takes away, for each number of swaps, what two rows of numbers make with all ways to share the swaps."""
    for s, a in enumerate(one):
        if a != 0:
            for t in range(len(numbers) - s):
                if two[t] != 0:
                    numbers[s + t] -= ways * chosen_of(s + t, s) * a * two[t]


class JoinedDoubles:
    """The rows of numbers for 0, 1, .., r swaps; what has been found once is kept."""

    def __init__(self, r):
        self.r = r
        self.moves = MoveRows()
        self.led = {}
        self.joined = {}

    def every_row(self, mu, nu):
        """The marked double numbers."""
        if mu not in self.led:
            self.led[mu] = self.moves.led_rows(mu, self.r)
        # Over z(mu), times the repeats of both: the parts of mu are left below, and they are taken away here.
        repeats = repeat_number(nu)
        return [row.get(nu, 0) * repeats for row in self.led[mu]]

    def joined_row(self, mu, nu):
        """The marked connected numbers."""
        if (mu, nu) not in self.joined:
            numbers = self.every_row(mu, nu)
            others = choices_by_sum(nu)
            for taken, left, ways in choices_from(mu[1:]):
                one = mu[:1] + taken
                for two, rest, more in others.get(sum(one), []):
                    # All of both is what is looked for.
                    if left:
                        _take_away(numbers, ways * more, self.joined_row(one, two), self.every_row(left, rest))
            self.joined[(mu, nu)] = numbers
        return self.joined[(mu, nu)]


def part_product(mu):
    """The product of the parts."""
    product = 1
    for part in mu:
        product = product * part
    return product
