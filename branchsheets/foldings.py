"""Foldings of words (Stallings), without checks."""

from branchsheets.joins import join_two, root_of
from branchsheets.walks import reduced


def _drawn_paths(words):
    """The number of points and the arcs of a closed path at 0 for each reduced word."""
    arcs = []
    many = 1
    for w in words:
        x = 0
        for at, letter in enumerate(w):
            y = 0 if at == len(w) - 1 else many
            if y > 0:
                many += 1
            arcs.append((x, letter, y) if letter > 0 else (y, -letter, x))
            x = y
    return (many, arcs)


def _join_met(above, ends, key, x):
    """Joins a point with the one that is at this end already; True if they were two."""
    if key not in ends:
        ends[key] = x
        return False
    return join_two(above, ends[key], x)


def _joined_once(above, arcs):
    """Goes once through the arcs and joins ends; True if some were joined."""
    ends = {}
    changed = False
    for x, letter, y in arcs:
        start, end = root_of(above, x), root_of(above, y)
        if _join_met(above, ends, (start, letter), end):
            changed = True
        start, end = root_of(above, x), root_of(above, y)
        if _join_met(above, ends, (end, -letter), start):
            changed = True
    return changed


def arrows_by(words):
    """The folded arrows: a dict from the points, in the order of their least words, to their own dicts.

    The point 0 is the first one; its dict leads each letter that leads from it to a point.
    """
    many, arcs = _drawn_paths([reduced(w) for w in words])
    above = list(range(many))
    while _joined_once(above, arcs):
        pass
    arrows = {root_of(above, x): {} for x in range(many)}
    for x, letter, y in arcs:
        start, end = root_of(above, x), root_of(above, y)
        arrows[start][letter] = end
        arrows[end][-letter] = start
    return _numbered(arrows)


def _numbered(arrows):
    """The arrows with the points numbered in the order of the least words that lead 0 to them."""
    order = [0]
    numbers = {0: 0}
    at = 0
    while at < len(order):
        ahead = arrows[order[at]]
        for letter in sorted(ahead, key=lambda i: (abs(i), -i)):
            if ahead[letter] not in numbers:
                numbers[ahead[letter]] = len(order)
                order.append(ahead[letter])
        at += 1
    return [{letter: numbers[y] for letter, y in arrows[x].items()} for x in order]


def led_along(arrows, x, w):
    """The point to which a word leads, or None where it leads nowhere."""
    for letter in w:
        if letter not in arrows[x]:
            return None
        x = arrows[x][letter]
    return x
