"""Numbers of rows of permutations with any number of swaps behind them, without checks.

By the characters such a number is a sum of terms a c^r, where r is the number of
the swaps, and c a sum of contents. So it is kept as a series: a dict from c to a.
The numbers are taken d! times, so that all a are integers.
"""

from branchsheets.hookcounts import character_column, hook_product
from branchsheets.partchoices import choices_by_sum
from branchsheets.partitions import class_size, content_sum, partitions_of
from branchsheets.whole import chosen_of, factorial_of, raised_to


def splits_of(d, data):
    """The triples (e, parts, rests): the data for e sheets that a datum for d sheets has, and what is left of it."""
    choices = [choices_by_sum(mu) for mu in data]
    found = []
    for e in range(1, d + 1):
        pairs = [((), ())]
        for table in choices:
            fitting = table.get(e, [])
            pairs = [(parts + (row[0],), rests + (row[1],)) for parts, rests in pairs for row in fitting]
        found.extend([(e, parts, rests) for parts, rests in pairs])
    return found


def value_at(series, r):
    """The value of a series for r swaps."""
    return sum([a * raised_to(c, r) for c, a in series.items()])


def _take_away(series, factor, one, two):
    """Takes the product of two series, some times, from a series."""
    for c, a in one.items():
        for e, b in two.items():
            series[c + e] = series.get(c + e, 0) - factor * a * b


class RowSeries:
    """The series of the rows over a base of some genus; what has been found once is kept."""

    def __init__(self, h):
        self.h = h
        self.columns = {}
        self.weights = {}
        self.every = {}
        self.joined = {}

    def central_column(self, mu):
        """For each partition, ascending, its central number at mu."""
        if mu not in self.columns:
            # The class size, divided by the number of fillings, is the product of the hooks over z(mu).
            size, whole = class_size(mu), factorial_of(sum(mu))
            column = character_column(mu)
            self.columns[mu] = [size * n * hook_product(lam) // whole for lam, n in column.items()]
        return self.columns[mu]

    def plain_weights(self, d):
        """For each partition of d the pair of its sum of contents and of its term without any datum."""
        if d not in self.weights:
            whole = factorial_of(d)
            rows = []
            for lam in partitions_of(d):
                hooks = hook_product(lam)
                if self.h == 0:
                    rows.append((content_sum(lam), (whole // hooks) * (whole // hooks)))
                else:
                    rows.append((content_sum(lam), whole * whole * raised_to(hooks, 2 * self.h - 2)))
            self.weights[d] = rows
        return self.weights[d]

    def all_rows(self, d, data):
        """The series of all rows with a datum."""
        key = (d, tuple(sorted(data)))
        if key not in self.every:
            terms = [a for _, a in self.plain_weights(d)]
            for mu in data:
                terms = [a * n for a, n in zip(terms, self.central_column(mu))]
            series = {}
            for (c, _), a in zip(self.plain_weights(d), terms):
                series[c] = series.get(c, 0) + a
            self.every[key] = series
        return self.every[key]

    def connected_rows(self, d, data):
        """The series of the rows that lead each sheet to each other one."""
        # The number does not depend on the order of the datum.
        key = (d, tuple(sorted(data)))
        if key not in self.joined:
            series = dict(self.all_rows(d, data)) if d > 0 else {}
            for e, parts, rests in splits_of(d, data):
                if e < d:
                    # d! over e! (d - e)! is there because of the factors d!, e! and (d - e)! of the series.
                    ways = chosen_of(d - 1, e - 1) * chosen_of(d, e)
                    _take_away(series, ways, self.connected_rows(e, parts), self.all_rows(d - e, rests))
            self.joined[key] = series
        return self.joined[key]
