"""Closed formulas for numbers of rows."""

from branchsheets.demands import demand
from branchsheets.partitions import is_partition, repeat_number
from branchsheets.whole import factorial_of, is_integer, is_ratio, raised_to, ratio, ratio_less, ratio_over
from branchsheets.whole import ratio_product, ratio_sum

GREATEST_SUM = 24
MOST_TYPES = 6
MOST_HANDLES = 12
GREATEST_END = 1000
MOST_POINTS = 60


def _is_between(value, least, most):
    return is_integer(value) and least <= value <= most


def _demand_type(mu):
    demand(is_partition(mu) and 1 <= sum(mu) <= GREATEST_SUM, "partition of an integer from 1 to 24")


def joining_rows(mu):
    """The number of the shortest rows of swaps that join all sheets, with one told product of the type mu."""
    _demand_type(mu)
    d, m = sum(mu), len(mu)
    above, below = factorial_of(d + m - 2) * raised_to(d, m), raised_to(d, 3)
    for part in mu:
        above = above * raised_to(part, part + 1)
        below = below * factorial_of(part)
    return above // below


def joining_length(mu):
    """The number of swaps of these rows."""
    _demand_type(mu)
    return sum(mu) + len(mu) - 2


def cactus_number(d, types):
    """The number of the shortest rows of these types whose product is the long cycle."""
    demand(_is_between(d, 1, GREATEST_SUM), "number of sheets")
    demand(isinstance(types, tuple) and len(types) <= MOST_TYPES, "tuple of partitions")
    demand(all([is_partition(mu) and sum(mu) == d for mu in types]), "tuple of partitions")
    if sum([d - len(mu) for mu in types]) != d - 1:
        return 0
    above, below = raised_to(d, len(types)), d
    for mu in types:
        above = above * factorial_of(len(mu) - 1)
        below = below * repeat_number(mu)
    return above // below


def _half_sine(n):
    """The fractions at t^0, t^2, .., t^(2 n)."""
    return [(1, raised_to(4, j) * factorial_of(2 * j + 1)) for j in range(n + 1)]


def half_sine_row(n):
    """The tuple of the fractions of S(t) at t^0, t^2, .., t^(2 n)."""
    demand(_is_between(n, 0, MOST_HANDLES), "integer from 0 to 12")
    return tuple(_half_sine(n))


def _is_row(value):
    return isinstance(value, tuple) and value != () and all([is_ratio(a) for a in value])


def _demand_rows(f, h):
    demand(_is_row(f) and _is_row(h) and len(f) == len(h), "rows of one length")


def _ahead_of(f, h, n):
    """The sum of all f[j] h[n - j], but that with h[0]."""
    total = (0, 1)
    for j in range(n):
        total = ratio_sum(total, ratio_product(f[j], h[n - j]))
    return total


def _product(f, h):
    return [ratio_sum(_ahead_of(f, h, n), ratio_product(f[n], h[0])) for n in range(len(f))]


def even_product(f, h):
    """The product of two rows."""
    _demand_rows(f, h)
    return tuple(_product(f, h))


def _quotient(f, h):
    row = []
    for n in range(len(f)):
        row.append(ratio_over(ratio_less(f[n], _ahead_of(row, h, n)), h[0]))
    return row


def even_quotient(f, h):
    """The quotient of two rows; Malformed if h begins with zero."""
    _demand_rows(f, h)
    demand(h[0][0] != 0, "row that begins with a fraction other than zero")
    return tuple(_quotient(f, h))


def _demand_one_part(nu, g):
    _demand_type(nu)
    demand(_is_between(g, 0, MOST_HANDLES), "genus")


def one_part_number(nu, g):
    """The number of the rows with one point of the type (d), over d!, times the exchanges of equal parts of nu."""
    _demand_one_part(nu, g)
    sine = _half_sine(g)
    row = [(1, 1)] + [(0, 1)] * g
    for part in nu:
        row = _product(row, [ratio_product(a, (raised_to(part, 2 * j), 1)) for j, a in enumerate(sine)])
    coefficient = _quotient(row, sine)[g]
    d, r = sum(nu), 2 * g - 1 + len(nu)
    # With one part and no handle r is 0, and d stands below.
    return ratio(coefficient[0] * factorial_of(r) * raised_to(d, r), coefficient[1] * d)


def one_part_swaps(nu, g):
    """The number of swaps of these rows."""
    _demand_one_part(nu, g)
    return 2 * g - 1 + len(nu)


def four_ends(a, b, c, e):
    """The number of the connected rows from (a, b) to (c, e) on a sphere, over d!, with marked cycles."""
    demand(all([_is_between(end, 1, GREATEST_END) for end in (a, b, c, e)]), "integer from 1 to 1000")
    demand(a + b == c + e, "ends of one sum")
    return 2 * max(a, b, c, e)


def tree_rows(d):
    """The number of the trees on d numbered points."""
    demand(_is_between(d, 1, MOST_POINTS), "number of points")
    return 1 if d == 1 else raised_to(d, d - 2)
