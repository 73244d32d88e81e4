"""Systems and words without checks: who calls these has made sure of the forms."""

from branchsheets.plainperms import then, turned, turned_about, unit_of


def letter_rows(perms):
    """A dict from each letter to its permutation, the letters in the order 1, -1, 2, -2 .."""
    rows = {}
    for at, p in enumerate(perms):
        rows[at + 1] = p
        rows[-at - 1] = turned(p)
    return rows


def opposite_word(w):
    return tuple([-letter for letter in w[::-1]])


def reduced(w):
    """The word without neighbours that are opposites."""
    kept = []
    for letter in w:
        if kept and kept[-1] == -letter:
            kept.pop()
        else:
            kept.append(letter)
    return tuple(kept)


def walked(rows, x, w):
    """The sheet to which a word leads, rows being those of its letters."""
    for letter in w:
        x = rows[letter][x]
    return x


def word_row(rows, d, w):
    """The permutation of a word, rows being those of its letters."""
    p = unit_of(d)
    for letter in w:
        p = then(p, rows[letter])
    return p


def row_product(d, perms):
    """The product of permutations of d sheets, in order."""
    product = unit_of(d)
    for p in perms:
        product = then(product, p)
    return product


def reached_from(perms, x):
    """The list of the sheets to which words lead x, in the order in which the letters 1, 2, .. find them."""
    found = [x]
    seen = {x: True}
    at = 0
    # A power of a permutation is its inverse, so the opposite letters find nothing more.
    while at < len(found):
        for p in perms:
            y = p[found[at]]
            if y not in seen:
                seen[y] = True
                found.append(y)
        at += 1
    return found


def part_rows(d, perms):
    """The parts, ascending lists, in order."""
    parts = []
    seen = {}
    for start in range(d):
        if start not in seen:
            part = reached_from(perms, start)
            for x in part:
                seen[x] = True
            parts.append(sorted(part))
    return parts


def words_from(d, perms, x):
    """The list of the leading words from x to each sheet; None where no word leads."""
    rows = letter_rows(perms)
    words = [None] * d
    words[x] = ()
    found = [x]
    at = 0
    while at < len(found):
        y = found[at]
        for letter, p in rows.items():
            if words[p[y]] is None:
                words[p[y]] = words[y] + (letter,)
                found.append(p[y])
        at += 1
    return words


def renumbered(S, f):
    """The system renumbered by a permutation f of its sheets."""
    d, perms = S
    return (d, tuple([turned_about(p, f) for p in perms]))


def numbered_in(S, order):
    """The system renumbered so that the sheets come in this order."""
    return renumbered(S, turned(order))


def least_numbered(S):
    """The least of the systems numbered from all sheets of a connected system."""
    return min([numbered_in(S, reached_from(S[1], x)) for x in range(S[0])])


def narrowed(perms, sheets):
    """The permutations on some sheets that no letter leaves, numbered by their places."""
    places = {x: at for at, x in enumerate(sheets)}
    return tuple([tuple([places[p[x]] for x in sheets]) for p in perms])


def genus_by_types(d, types):
    """The genus of a cover of d sheets with these cycle types (Riemann, Hurwitz)."""
    loss = sum([d - len(lengths) for lengths in types])
    return (2 - 2 * d + loss) // 2
