"""Cut and join: types led by swaps, double numbers, and walks of types."""

from branchsheets.demands import demand, demand_within
from branchsheets.joineddoubles import JoinedDoubles, part_product
from branchsheets.partchoices import choices_by_sum, choices_from
from branchsheets.partitions import centralizer_order, demand_pair, is_partition, partitions_of, repeat_number
from branchsheets.typemoves import MoveRows, moves_from
from branchsheets.whole import is_integer, is_ratio, ratio, ratio_product, ratio_sum

GREATEST_SUM = 12
GREATEST_JOINED = 10
MOST_SWAPS = 30


def _demand_swaps(mu, nu, r, greatest):
    demand_pair(mu, nu)
    demand(is_integer(r) and r >= 0, "number of swaps")
    demand_within(sum(mu), greatest, "large")
    demand_within(r, MOST_SWAPS, "large")


def move_number(mu, nu):
    """The number of the swaps that lead one permutation of the type mu to the type nu."""
    demand_pair(mu, nu)
    demand_within(sum(mu), GREATEST_SUM, "large")
    return moves_from(mu).get(nu, 0)


def move_row(mu):
    """The ascending tuple of the pairs of a type and its move number from mu, above 0."""
    demand(is_partition(mu), "partition")
    demand_within(sum(mu), GREATEST_SUM, "large")
    return tuple(sorted(moves_from(mu).items()))


def move_table(d):
    """The table of all move numbers, the partitions ascending."""
    demand(is_integer(d) and d >= 0, "integer from 0 on")
    demand_within(d, GREATEST_SUM, "large")
    rows = []
    for mu in partitions_of(d):
        numbers = moves_from(mu)
        rows.append(tuple([numbers.get(nu, 0) for nu in partitions_of(d)]))
    return tuple(rows)


def double_number(mu, nu, r):
    """The number of the rows from the type mu to the type nu with r swaps, over d!."""
    _demand_swaps(mu, nu, r, GREATEST_SUM)
    number = MoveRows().led_rows(mu, r)[r].get(nu, 0)
    return ratio(number, centralizer_order(mu))


def connected_double(mu, nu, r):
    """The number of those rows that lead each sheet to each other one, over d!."""
    _demand_swaps(mu, nu, r, GREATEST_JOINED)
    if mu == ():
        return (0, 1)
    number = JoinedDoubles(r).joined_row(mu, nu)[r]
    return ratio(number, part_product(mu) * repeat_number(mu) * repeat_number(nu))


def _is_term(value):
    if not (isinstance(value, tuple) and len(value) == 2):
        return False
    mu, c = value
    return is_partition(mu) and sum(mu) <= GREATEST_SUM and is_ratio(c) and c[0] != 0


def _is_polynomial(value):
    if not (isinstance(value, tuple) and all([_is_term(term) for term in value])):
        return False
    return all([value[at][0] < value[at + 1][0] for at in range(len(value) - 1)])


def cut_and_join(F):
    """What the operator makes of a polynomial, an ascending tuple of pairs of a partition and a fraction."""
    demand(_is_polynomial(F), "polynomial")
    sums = {}
    for mu, c in F:
        for nu, n in moves_from(mu).items():
            sums[nu] = ratio_sum(sums.get(nu, (0, 1)), ratio_product(c, (n, 1)))
    return tuple(sorted([(nu, c) for nu, c in sums.items() if c[0] != 0]))


def _shares_of(mu, nu, met):
    """The greatest number of shares of a common cut."""
    if mu == ():
        return 0
    if (mu, nu) not in met:
        others = choices_by_sum(nu)
        best = 0
        # The bundle with the first part, and one with its sum; with all of both there is always a cut.
        for taken, left, _ in choices_from(mu[1:]):
            for row in others.get(mu[0] + sum(taken), []):
                best = max(best, 1 + _shares_of(left, row[1], met))
        met[(mu, nu)] = best
    return met[(mu, nu)]


def share_number(mu, nu):
    """The greatest number of shares of a common cut of mu and nu."""
    demand_pair(mu, nu)
    demand_within(sum(mu), GREATEST_SUM, "large")
    return _shares_of(mu, nu, {})


def least_moves(mu, nu):
    """The least number of swaps that lead from the type mu to the type nu."""
    shares = share_number(mu, nu)
    return len(mu) + len(nu) - 2 * shares


def demand_walk(mu, nu, r):
    """Raises Malformed, for every value, or Refused, if walks of types are not told for these."""
    _demand_swaps(mu, nu, r, GREATEST_SUM)


def type_walk(mu, nu, r):
    """A walk of types from mu to nu with r moves, or None."""
    demand_walk(mu, nu, r)
    # A move leads back where it came from: so the types from which nu is reached are led to from nu.
    rows = MoveRows().led_rows(nu, r)
    if mu not in rows[r]:
        return None
    walk = [mu]
    for row in rows[:r][::-1]:
        walk.append([lam for lam in moves_from(walk[-1]) if lam in row][0])
    return tuple(walk)


def is_type_walk(value, mu, nu):
    """True if the value is a walk of types from mu to nu."""
    demand_pair(mu, nu)
    demand_within(sum(mu), GREATEST_SUM, "large")
    # The forms are asked first, because (True,) is equal to (1,) and is no partition.
    if not (isinstance(value, tuple) and all([is_partition(lam) and sum(lam) == sum(mu) for lam in value])):
        return False
    if value[:1] != (mu,) or value[-1:] != (nu,):
        return False
    moves = MoveRows()
    return all([value[at + 1] in moves.moves_of(value[at]) for at in range(len(value) - 1)])
