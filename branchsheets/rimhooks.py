"""Characters by rim hooks, hook lengths, fillings, and rows of numbers."""

from branchsheets.demands import demand, demand_within
from branchsheets.hookcounts import character_at, character_column, hook_product, hook_rows, hooks_off
from branchsheets.partitions import class_size, demand_pair, is_partition, partitions_of
from branchsheets.permgroups import type_numbers
from branchsheets.systems import demand_system
from branchsheets.whole import factorial_of, is_integer, ratio

GREATEST_SUM = 24
GREATEST_ROW = 10


def _demand_one(lam):
    demand(is_partition(lam), "partition")
    demand_within(sum(lam), GREATEST_SUM, "large")


def _demand_two(lam, mu):
    demand_pair(lam, mu)
    demand_within(sum(lam), GREATEST_SUM, "large")


def _is_row(f, d):
    if not (isinstance(f, tuple) and all([is_integer(n) for n in f])):
        return False
    return len(f) == len(partitions_of(d))


def _demand_rows(rows, d):
    demand(is_integer(d) and d >= 0, "integer from 0 on")
    demand_within(d, GREATEST_ROW, "large")
    demand(all([_is_row(f, d) for f in rows]), "class row")


def rim_removals(lam, m):
    """The ascending tuple of the pairs of a rest and a height, for all rim hooks of m cells."""
    demand(is_partition(lam), "partition")
    demand(is_integer(m) and m > 0, "integer from 1 on")
    demand_within(sum(lam), GREATEST_SUM, "large")
    return tuple(sorted(hooks_off(lam, m)))


def rim_character(lam, mu):
    """The character number of lam at mu."""
    _demand_two(lam, mu)
    return character_at(lam, mu)


def _rows_of(d):
    """The rows of the character numbers, for all partitions, ascending."""
    columns = [list(character_column(mu).values()) for mu in partitions_of(d)]
    return list(zip(*columns))


def character_rows(d):
    """The tuple of the class rows of the characters, for all partitions of d, ascending."""
    _demand_rows((), d)
    return tuple(_rows_of(d))


def hook_lengths(lam):
    """The tuple of the rows of hook lengths."""
    _demand_one(lam)
    return tuple(hook_rows(lam))


def filling_number(lam):
    """The number of the ways to write 1, .., d, ascending along rows and columns."""
    _demand_one(lam)
    return factorial_of(sum(lam)) // hook_product(lam)


def central_number(lam, mu):
    """The class size of mu times the character number, divided by that at (1, .., 1)."""
    _demand_two(lam, mu)
    return class_size(mu) * character_at(lam, mu) // filling_number(lam)


def cell_row(lam):
    """The coefficients of the product of q and the content, over all cells, from q^0 on."""
    _demand_one(lam)
    row = [1]
    for i, part in enumerate(lam):
        for j in range(part):
            # (q + j - i) times the row: it moves by one place, and is added j - i times.
            row = [a + (j - i) * b for a, b in zip([0] + row, row + [0])]
    return tuple(row)


def _strips_off(lam, m):
    """What is left of lam without m cells, no two of them in a column."""
    rows = [((), m)]
    for part, below in zip(lam, lam[1:] + (0,)):
        rows = [(kept + (part - n,), many - n) for kept, many in rows for n in range(min(many, part - below) + 1)]
    return [tuple([part for part in kept if part > 0]) for kept, many in rows if many == 0]


def kostka_number(lam, mu):
    """The number of the fillings of lam with mu_0 zeros, mu_1 ones, .. that ascend along the columns."""
    _demand_two(lam, mu)
    ways = {lam: 1}
    # The cells with one number are a strip; the number of fillings is the same in each order of the parts.
    for m in mu:
        ahead = {}
        # A copy, because the dict that is filled gets the name of the one that is walked.
        for kept, many in list(ways.items()):
            for rest in _strips_off(kept, m):
                ahead[rest] = ahead.get(rest, 0) + many
        ways = ahead
    return ways.get((), 0)


def _rooms_left(rooms, length):
    """What is left of the rooms when a cycle takes its place, with the number of the ways to do so."""
    found = {}
    for at, room in enumerate(rooms):
        if room >= length:
            rest = tuple(sorted(rooms[:at] + rooms[at + 1:] + (room - length,)))
            found[rest] = found.get(rest, 0) + 1
    return found


def young_number(mu, nu):
    """The number of the colourings of the cycles of nu such that the colour j has mu_j sheets."""
    _demand_two(mu, nu)
    # Colours with equal room are alike for what follows, so only the rooms are kept, in order.
    ways = {tuple(sorted(mu)): 1}
    for length in nu:
        ahead = {}
        # A copy, because the dict that is filled gets the name of the one that is walked.
        for rooms, many in list(ways.items()):
            for rest, more in _rooms_left(rooms, length).items():
                ahead[rest] = ahead.get(rest, 0) + many * more
        ways = ahead
    return sum(list(ways.values()))


def _product_over(f, g, d):
    """The product of two class rows, a fraction."""
    total = sum([a * b * class_size(mu) for a, b, mu in zip(f, g, partitions_of(d))])
    return ratio(total, factorial_of(d))


def row_product(f, g, d):
    """The sum of f(mu) g(mu) / z(mu)."""
    _demand_rows((f, g), d)
    return _product_over(f, g, d)


def row_parts(f, d):
    """The products of a class row with the rows of all characters, ascending."""
    _demand_rows((f,), d)
    return tuple([_product_over(f, row, d) for row in _rows_of(d)])


def is_character_row(f, d):
    """True if all parts are integers from 0 on."""
    return all([n >= 0 and below == 1 for n, below in row_parts(f, d)])


def invariant_number(S, lam):
    """The mean of the character numbers of lam at the types of all members."""
    demand_system(S)
    demand(is_partition(lam) and sum(lam) == S[0], "partition of the number of sheets")
    numbers = type_numbers(S)
    total = sum([many * character_at(lam, mu) for mu, many in numbers])
    return total // sum([many for _, many in numbers])
