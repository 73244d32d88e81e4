"""The class algebra: sums of all permutations of a cycle type, and their products."""

from branchsheets.demands import demand, demand_within
from branchsheets.partitions import class_size, is_partition, partitions_of
from branchsheets.permutations import least_of_type, permutations_of_type
from branchsheets.plainperms import lengths_of, then, turned
from branchsheets.whole import is_integer

MOST_SHEETS = 8
MOST_FACTORS = 40


def _demand_sheets(d):
    demand(is_integer(d) and d >= 0, "number of sheets")


def _has_row_form(value, d):
    """True if the value is a class row of d; above 8 sheets each tuple of integers counts as one."""
    if not (isinstance(value, tuple) and all([is_integer(n) for n in value])):
        return False
    return d > MOST_SHEETS or len(value) == len(partitions_of(d))


def is_class_row(value, d):
    """True if the value is a class row of d."""
    _demand_sheets(d)
    demand_within(d, MOST_SHEETS, "large")
    return _has_row_form(value, d)


def _demand_form(row, d):
    _demand_sheets(d)
    demand(_has_row_form(row, d), "class row")


def _demand_row(row, d):
    _demand_form(row, d)
    demand_within(d, MOST_SHEETS, "large")


def _demand_types(rows, d):
    demand(all([is_partition(mu) and sum(mu) == d for mu in rows]), "partitions of one number")
    demand_within(d, MOST_SHEETS, "large")


def _demand_partition(mu):
    demand(is_partition(mu), "partition")


def class_row_of(mu):
    """The class row with 1 at mu and 0 elsewhere."""
    _demand_partition(mu)
    d = sum(mu)
    demand_within(d, MOST_SHEETS, "large")
    return tuple([1 if nu == mu else 0 for nu in partitions_of(d)])


def row_sum(row, d):
    """The sum of the items, each times its class size."""
    _demand_row(row, d)
    return sum([n * class_size(mu) for n, mu in zip(row, partitions_of(d))])


def signed_row_sum(row, d):
    """The sum of the items, each times its class size and the sign of its partition."""
    _demand_row(row, d)
    signed = [-n if (d - len(mu)) & 1 else n for n, mu in zip(row, partitions_of(d))]
    return sum([n * class_size(mu) for n, mu in zip(signed, partitions_of(d))])


def class_constant(mu, nu, lam):
    """The number of the pairs of the types mu and nu with one told product of the type lam."""
    _demand_partition(mu)
    _demand_types((mu, nu, lam), sum(mu))
    r = least_of_type(lam)
    # The order of the two does not matter, so the smaller class is walked.
    if class_size(nu) < class_size(mu):
        mu, nu = nu, mu
    return len([p for p in permutations_of_type(mu) if lengths_of(then(turned(p), r)) == nu])


def _counted_types(mu, products, met):
    """For each partition nu, how often p r has its type, p of the type mu, for each r of some products."""
    counts = {nu: [0] * len(products) for nu in partitions_of(sum(mu))}
    for p in permutations_of_type(mu):
        for at, r in enumerate(products):
            q = then(p, r)
            if q not in met:
                met[q] = lengths_of(q)
            counts[met[q]][at] += 1
    return list(counts.values())


def _tables_of(types, d):
    """A dict from each of some partitions of d to its class table, a list of lists."""
    # With p also its inverse has the type mu: so the pairs with the product r are counted by p r.
    products = [least_of_type(lam) for lam in partitions_of(d)]
    met = {}
    tables = {}
    for mu in types:
        if mu not in tables:
            tables[mu] = _counted_types(mu, products, met)
    return tables


def class_table(mu):
    """For each partition nu the product of the class rows of mu and nu."""
    _demand_partition(mu)
    d = sum(mu)
    demand_within(d, MOST_SHEETS, "large")
    return tuple([tuple(row) for row in _tables_of([mu], d)[mu]])


def _led_by(row, table):
    """The sum of the rows of a table, each as often as a row tells."""
    return [sum([n * item for n, item in zip(row, column)]) for column in zip(*table)]


def _table_of_row(row, d):
    """The table by which a class row multiplies."""
    types = partitions_of(d)
    factors = {mu: n for n, mu in zip(row, types) if n != 0}
    tables = _tables_of(factors, d)
    total = [[0] * len(types) for _ in types]
    for mu, n in factors.items():
        total = [[a + n * b for a, b in zip(one, two)] for one, two in zip(total, tables[mu])]
    return total


def _members_in(row, d):
    """The number of the permutations of the types at which a row is not 0."""
    return sum([class_size(mu) for n, mu in zip(row, partitions_of(d)) if n != 0])


def class_product(one, two, d):
    """The product of two class rows of d."""
    _demand_form(one, d)
    _demand_row(two, d)
    if _members_in(two, d) < _members_in(one, d):
        one, two = two, one
    return tuple(_led_by(two, _table_of_row(one, d)))


def _one_of(d):
    """The class row of the permutation that leaves all sheets: its partition is the least one."""
    return [1] + [0] * (len(partitions_of(d)) - 1)


def class_power(row, n, d):
    """The power of a class row, n from 0 to 40."""
    _demand_form(row, d)
    demand(is_integer(n) and 0 <= n <= MOST_FACTORS, "power")
    demand_within(d, MOST_SHEETS, "large")
    table = _table_of_row(row, d)
    power = _one_of(d)
    for _ in range(n):
        power = _led_by(power, table)
    return tuple(power)


def product_rows(types, d):
    """The list of the products of the class rows of the first 0, 1, .. of some partitions of d, without checks."""
    tables = _tables_of(types, d)
    rows = [tuple(_one_of(d))]
    for mu in types:
        rows.append(tuple(_led_by(rows[-1], tables[mu])))
    return rows


def product_row_of(types, d):
    """The product of the class rows of at most 40 partitions of d."""
    _demand_sheets(d)
    demand(isinstance(types, tuple) and len(types) <= MOST_FACTORS, "tuple of partitions")
    _demand_types(types, d)
    return product_rows(types, d)[-1]


def tuple_number(types, d):
    """The number of the rows of permutations of these types whose product leaves all sheets."""
    return product_row_of(types, d)[0]
