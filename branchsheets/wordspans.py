"""The least word that leaves unlike numbers of sheets of two systems, without checks."""

from branchsheets.plainperms import then, unit_of
from branchsheets.walks import letter_rows

# The numbers of fixed sheets differ by at most 8. So each prime above 8 tells whether they
# differ, and what is a sum of multiples modulo the prime has nothing to tell either.
PRIME = 10007


def _fixed(p):
    return sum([1 for x, y in enumerate(p) if x == y])


def _matrices(p, q):
    """The items of both matrices, one behind the other."""
    row = []
    for one in (p, q):
        for y in one:
            row.extend([1 if x == y else 0 for x in range(len(one))])
    return row


def _inverse_modulo(a):
    """The inverse of a number that PRIME does not divide (Fermat)."""
    inverse = 1
    e = PRIME - 2
    while e > 0:
        if e & 1:
            inverse = inverse * a % PRIME
        a = a * a % PRIME
        e = e >> 1
    return inverse


def _is_new(basis, row):
    """True if a row is no sum of multiples of those of the basis; it is put into the basis then."""
    for lead, kept in basis:
        factor = row[lead]
        if factor:
            row = [(a - factor * b) % PRIME for a, b in zip(row, kept)]
    leads = [at for at, item in enumerate(row) if item]
    if not leads:
        return False
    inverse = _inverse_modulo(row[leads[0]])
    basis.append((leads[0], [item * inverse % PRIME for item in row]))
    return True


def first_unlike(S, T):
    """The least word with unlike numbers of fixed sheets; there must be one."""
    ones, others = letter_rows(S[1]), letter_rows(T[1])
    start = (unit_of(S[0]), unit_of(T[0]))
    waiting = [((), start)]
    met = {start: True}
    basis = []
    at = 0
    while True:
        w, (p, q) = waiting[at]
        if _fixed(p) != _fixed(q):
            return w
        at += 1
        # A word goes on only if its pair of matrices is none of the sums of earlier ones.
        if _is_new(basis, _matrices(p, q)):
            for letter in ones:
                ahead = (then(p, ones[letter]), then(q, others[letter]))
                if ahead not in met:
                    met[ahead] = True
                    waiting.append((w + (letter,), ahead))
