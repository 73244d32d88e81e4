"""Tables of integers: determinants, ranks, and rows that depend on one another."""

from math import gcd

PRIME = 2305843009213693951


def _swapped_up(rows, at):
    """1 or -1, as a row whose item in the column is not 0 stands there or is put there; 0 if there is none."""
    for place in range(at, len(rows)):
        if rows[place][at] != 0:
            rows[at], rows[place] = rows[place], rows[at]
            return 1 if place == at else -1
    return 0


def determinant_of(table):
    """The determinant of a table with as many rows as columns (Bareiss); 1 for the empty one."""
    rows = [list(row) for row in table]
    sign = 1
    before = 1
    for at in range(len(rows)):
        sign = sign * _swapped_up(rows, at)
        if sign == 0:
            return 0
        head = rows[at]
        lead = head[at]
        for place in range(at + 1, len(rows)):
            first = rows[place][at]
            # Each quotient is a determinant of some of the items, so nothing is left over.
            rows[place] = [(lead * a - first * b) // before for a, b in zip(rows[place], head)]
        before = lead
    return sign * before


def _is_regular_modulo(table, prime):
    """True if a prime does not divide the determinant."""
    rows = [[n % prime for n in row] for row in table]
    for at in range(len(rows)):
        if _swapped_up(rows, at) == 0:
            return False
        head = rows[at]
        for place in range(at + 1, len(rows)):
            first = rows[place][at]
            rows[place] = [(head[at] * a - first * b) % prime for a, b in zip(rows[place], head)]
    return True


def is_regular(table):
    """True if the determinant is other than 0."""
    # Modulo a prime all numbers stay small, and what is not 0 there is not 0; only a 0 asks for more.
    return _is_regular_modulo(table, PRIME) or determinant_of(table) != 0


def _reduced_by(row, kept):
    """Some multiple of a row, less multiples of kept rows, with 0 in their columns."""
    for column, other in kept:
        many = row[column]
        if many != 0:
            lead = other[column]
            row = [lead * a - many * b for a, b in zip(row, other)]
            common = 0
            for n in row:
                common = gcd(common, n)
            row = [n // common for n in row] if common > 1 else row
    return row


def _first_column(row, many):
    """The first of so many columns in which a row is not 0, or None."""
    for column in range(many):
        if row[column] != 0:
            return column
    return None


def rank_of(table):
    """The rank of a table."""
    kept = []
    for row in table:
        rest = _reduced_by(list(row), kept)
        column = _first_column(rest, len(rest))
        if column is not None:
            kept.append((column, rest))
    return len(kept)


def free_columns(table, many):
    """Columns in which all rows, of so many items, have a determinant other than 0; None if there are none.

    The pair of them, or None, and of None or integers, not all 0, with which the rows add up to 0.
    """
    kept = []
    for at, row in enumerate(table):
        # Behind each row stands how it is made of the rows of the table.
        made = [1 if place == at else 0 for place in range(len(table))]
        rest = _reduced_by(list(row) + made, kept)
        column = _first_column(rest, many)
        if column is None:
            return (None, tuple(rest[many:]))
        kept.append((column, rest))
    return ([column for column, _ in kept], None)
