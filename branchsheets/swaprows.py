"""Rows of swaps, led to their sorted rows by braid moves, without checks.

Swaps are pairs of sheets here. Places in a row are counted from 0, so the move i is
done with the swaps at the places i - 1 and i.
"""

from branchsheets.plainperms import exchanged


def turned_by(swap, other):
    """A swap renumbered by another one."""
    x, y = exchanged(swap, other[0], other[1])
    return (min(x, y), max(x, y))


def final_swaps(p, sheets, many):
    """The sorted row of many swaps that join some ascending sheets and have on them the product p."""
    last = sheets[-1]
    if len(sheets) == 2:
        return [sheets] * many
    x = p[last]
    if x == last:
        return final_swaps(p, sheets[:-1], many - 2) + [(sheets[0], last)] * 2
    # The other swaps leave the last sheet, so the one behind them leads it to x.
    return final_swaps(exchanged(p, x, last), sheets[:-1], many - 1) + [(x, last)]


def leading_path(swaps, x, y):
    """Some of the swaps that lead x to y one after the other; there are such."""
    paths = {x: []}
    waiting = [x]
    at = 0
    while y not in paths:
        sheet = waiting[at]
        for swap in swaps:
            for one, two in (swap, swap[::-1]):
                if one == sheet and two not in paths:
                    paths[two] = paths[sheet] + [swap]
                    waiting.append(two)
        at += 1
    return paths[y]


class SwapRow:
    """A row of swaps, and the braid word of the moves that were done with it."""

    def __init__(self, swaps):
        self.swaps = list(swaps)
        self.word = []

    def move(self, i):
        """Does a move, or its opposite for an i below 0."""
        at = abs(i)
        p, q = self.swaps[at - 1], self.swaps[at]
        if i > 0:
            self.swaps[at - 1:at + 1] = [q, turned_by(p, q)]
        else:
            self.swaps[at - 1:at + 1] = [turned_by(q, p), p]
        self.word.append(i)

    def lead_left(self, at, to):
        """Leads the swap at a place to an earlier one; it stays as it is."""
        for i in range(at, to, -1):
            self.move(i)

    def pair_left(self, at, to):
        """Leads two equal swaps from the places at, at + 1 to the left; all swaps stay as they are."""
        for i in range(at, to, -1):
            self.move(i)
            self.move(i + 1)

    def pair_right(self, at, to):
        """Leads two equal swaps from the places at, at + 1 to the right; all swaps stay as they are."""
        for i in range(at, to):
            self.move(-i - 2)
            self.move(-i - 1)

    def turn_pair(self, low, at, swap):
        """Renumbers two equal swaps at the places at, at + 1 by one that stands from the place low on before them."""
        to = low
        while self.swaps[to] != swap:
            to += 1
        self.pair_left(at, to + 1)
        # They go past the swap and are renumbered by it; back past it and the others they stay as they are then.
        self.move(-to - 1)
        self.move(-to - 2)
        self.pair_right(to, at)

    def sort_by(self, colours):
        """Sorts the swaps by the colours of their sheets; swaps of unlike colours leave one another as they are."""
        for at in range(1, len(self.swaps)):
            colour = colours[self.swaps[at][0]]
            to = at
            while to > 0 and colours[self.swaps[to - 1][0]] > colour:
                to -= 1
            self.lead_left(at, to)

    def sort_part(self, low, high, sheets):
        """Sorts the swaps at the places from low to high - 1, which join some ascending sheets."""
        while len(sheets) > 2:
            high = self._settle(low, high, sheets)
            sheets = sheets[:-1]

    def _settle(self, low, high, sheets):
        """Leads to the right all swaps with the last sheet, one or two in the end; the place of the first of them."""
        first = self._make_equal(low, high, sheets[-1])
        while high - first > 2:
            # Two of them become unlike the others, so that at least one loses the last sheet.
            x = self.swaps[first][0]
            others = [swap for swap in self.swaps[low:first] if x in swap]
            self.turn_pair(low, first, others[0])
            first = self._make_equal(low, high, sheets[-1])
        if high - first == 2:
            path = leading_path(self.swaps[low:first], self.swaps[first][0], sheets[0])
            for swap in path:
                self.turn_pair(low, first, swap)
        return first

    def _make_equal(self, low, high, last):
        """Leads all swaps with the last sheet to the right and makes them equal; the place of the first of them."""
        first = self._gather(low, high, last)
        unlike = self._unlike(first, high)
        while unlike:
            # Of (x, last), (y, last) this makes (x, y), (x, last).
            self.move(-unlike[0])
            first = self._gather(low, high, last)
            unlike = self._unlike(first, high)
        return first

    def _unlike(self, first, high):
        """The places from first + 1 to high - 1 whose swap is unlike the one before it."""
        return [at for at in range(first + 1, high) if self.swaps[at] != self.swaps[at - 1]]

    def _gather(self, low, high, last):
        """Leads all swaps without the last sheet to the left; the place of the first one with it."""
        first = low
        for at in range(low, high):
            if self.swaps[at][1] != last:
                self.lead_left(at, first)
                first += 1
        return first
