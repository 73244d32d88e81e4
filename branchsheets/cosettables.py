"""All told systems of some sheets, one after the other, without checks."""

from branchsheets.walks import reduced, walked


def _letters_in_order(k):
    """The letters in the order 1, -1, 2, -2 .."""
    return [sign * i for i in range(1, k + 1) for sign in (1, -1)]


def _choices(table, letters, place, used, d):
    """The sheets to which the letter of a place may lead."""
    x, letter = place // len(letters), letters[place % len(letters)]
    if letter in table[x]:
        return [table[x][letter]]
    free = [y for y in range(used) if -letter not in table[y]]
    return free + [used] if used < d else free


def _with_arrow(table, x, letter, y):
    """The table in which a letter leads x to y, and its opposite leads back."""
    rows = [dict(row) for row in table]
    rows[x][letter] = y
    rows[y][-letter] = x
    return rows


def _tables(k, d):
    """All tables of d sheets, each a list of a dict for each sheet.

    The places (sheet, letter) are filled in order, and a new sheet is the next
    number: so the sheets come in the order of the least words that lead 0 to them.
    """
    letters = _letters_in_order(k)
    states = [([{} for _ in range(d)], 1)]
    for place in range(d * len(letters)):
        x, letter = place // len(letters), letters[place % len(letters)]
        # A table whose sheets are all filled before the last one is that of fewer sheets.
        states = [(_with_arrow(table, x, letter, y), max(used, y + 1))
                  for table, used in states if x < used for y in _choices(table, letters, place, used, d)]
    return [table for table, _ in states]


def _cyclically_reduced(w):
    """The word without opposite letters at its ends: it moves some sheet if the word does."""
    w = reduced(w)
    while len(w) > 1 and w[0] == -w[-1]:
        w = w[1:-1]
    return w


def told_tables(k, d, words):
    """The told systems of d sheets in which the words leave all sheets, in no order."""
    letters = _letters_in_order(k)
    shortened = sorted([_cyclically_reduced(w) for w in words], key=len)
    found = []
    for table in _tables(k, d):
        rows = {letter: tuple([row[letter] for row in table]) for letter in letters}
        if all([_leaves_all(rows, d, w) for w in shortened]):
            found.append((d, tuple([rows[i] for i in range(1, k + 1)])))
    return found


def _leaves_all(rows, d, w):
    for x in range(d):
        if walked(rows, x, w) != x:
            return False
    return True
