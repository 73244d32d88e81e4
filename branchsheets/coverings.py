"""Numbers of covers of closed surfaces with given branching."""

from branchsheets.demands import demand, demand_within
from branchsheets.partitions import is_partition
from branchsheets.rowseries import RowSeries, splits_of, value_at
from branchsheets.whole import chosen_of, factorial_of, is_integer, ratio

MOST_HANDLES = 4
MOST_SHEETS = 12
MOST_JOINED = 8
MOST_POINTS = 6
MOST_SWAPS = 60


def is_datum(value, d):
    """True if the value is a datum for d sheets, for every value of both."""
    if not (is_integer(d) and d >= 0 and isinstance(value, tuple) and len(value) <= MOST_POINTS):
        return False
    return all([is_partition(mu) and sum(mu) == d for mu in value])


def _demand_base(h, d):
    demand(is_integer(h) and 0 <= h <= MOST_HANDLES, "genus of a base")
    demand(is_integer(d) and 0 <= d <= MOST_SHEETS, "number of sheets")


def _demand_datum(h, d, data):
    _demand_base(h, d)
    demand(is_datum(data, d), "datum")


def _demand_swaps(h, d, r, data):
    _demand_datum(h, d, data)
    demand(is_integer(r) and 0 <= r <= MOST_SWAPS, "number of swaps")


def _every_number(h, d, r, data):
    return value_at(RowSeries(h).all_rows(d, data), r) // factorial_of(d)


def _joined_number(h, d, r, data):
    demand_within(d, MOST_JOINED, "large")
    return value_at(RowSeries(h).connected_rows(d, data), r) // factorial_of(d)


def cover_number(h, d, data):
    """The number of the rows with a datum over a base of the genus h."""
    _demand_datum(h, d, data)
    return _every_number(h, d, 0, data)


def connected_number(h, d, data):
    """The number of those rows that lead each sheet to each other one."""
    _demand_datum(h, d, data)
    return _joined_number(h, d, 0, data)


def swap_number(h, d, r, data):
    """The number of the rows with r swaps behind those of the datum."""
    _demand_swaps(h, d, r, data)
    return _every_number(h, d, r, data)


def connected_swaps(h, d, r, data):
    """The number of those rows with r swaps that lead each sheet to each other one."""
    _demand_swaps(h, d, r, data)
    return _joined_number(h, d, r, data)


def cover_weight(h, d, data):
    """The number of the rows over d!, a fraction."""
    return ratio(cover_number(h, d, data), factorial_of(d))


def connected_weight(h, d, data):
    """The number of the connected rows over d!, a fraction."""
    number = connected_number(h, d, data)
    return ratio(number, factorial_of(d))


def datum_genus(h, d, data):
    """The genus of a connected cover with this datum, or None if it would be no integer."""
    _demand_datum(h, d, data)
    loss = sum([d - len(mu) for mu in data])
    twice = 2 - d * (2 - 2 * h) + loss
    return None if twice & 1 else twice // 2


def surface_subgroups(h, d):
    """The number of the subgroups of the index d of the group of a surface of the genus h."""
    _demand_base(h, d)
    demand(d > 0, "index")
    return _joined_number(h, d, 0, ()) // factorial_of(d - 1)


def sub_data(d, data):
    """The ascending tuple of the triples (e, parts, ways) of the data for e sheets that a datum has."""
    _demand_datum(0, d, data)
    demand_within(d, MOST_JOINED, "large")
    return tuple(sorted([(e, parts, chosen_of(d - 1, e - 1)) for e, parts, _ in splits_of(d, data)]))
