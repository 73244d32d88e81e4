"""Colourings of sheets in first numbering, without checks."""

from branchsheets.joins import join_two, root_of


def first_numbered(row):
    """The row with its values numbered in the order in which they first stand."""
    numbers = {}
    for value in row:
        if value not in numbers:
            numbers[value] = len(numbers)
    return tuple([numbers[value] for value in row])


def joined_by(d, perms, pairs):
    """The finest colouring that joins some pairs of sheets, and what each letter makes of them."""
    above = list(range(d))
    waiting = list(pairs)
    while waiting:
        x, y = waiting.pop()
        if join_two(above, x, y):
            waiting.extend([(p[x], p[y]) for p in perms])
    return first_numbered([root_of(above, x) for x in range(d)])


def neighbours_of(colouring):
    """Pairs of sheets of one colour that join all of one colour."""
    last = {}
    pairs = []
    for x, colour in enumerate(colouring):
        if colour in last:
            pairs.append((last[colour], x))
        last[colour] = x
    return pairs


def is_kept_by(perms, colouring):
    """True if each letter leads sheets of one colour to sheets of one colour."""
    return all([colouring[p[x]] == colouring[p[y]] for x, y in neighbours_of(colouring) for p in perms])


def folded_rows(perms, colouring):
    """The permutations of the colours, of some sheets at least."""
    firsts = [colouring.index(colour) for colour in range(max(colouring) + 1)]
    return tuple([tuple([colouring[p[x]] for x in firsts]) for p in perms])
