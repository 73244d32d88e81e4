"""Foldings that remember how words are made, and systems that part a word from others; without checks.

Each arc of the graph carries a row of a word slate, or None. For each path from 0 to
0 the product of these rows along it stands for its reduced word. From 0 to another
point there is a word t, with t = () for 0, such that an arc of the letter i from x to
y carries a row for t_x i t_y^-1. Each t is the beginning of one of the given words, so
no row stands for a long word.
"""

from branchsheets.foldings import arrows_by
from branchsheets.slates import SlateMaker
from branchsheets.walks import reduced


def _clash_of(arcs):
    """Two arcs that begin alike or end alike, and whether they begin alike; None if there are none."""
    starts, ends = {}, {}
    for arc in arcs:
        x, letter, y, _ = arc
        if (x, letter) in starts:
            return (starts[(x, letter)], arc, True)
        if (letter, y) in ends:
            return (ends[(letter, y)], arc, False)
        starts[(x, letter)] = arc
        ends[(letter, y)] = arc
    return None


class WordFold:
    """The folded graph of some words; its points have no told numbers, but 0 is 0."""

    def __init__(self, words):
        self.slate = SlateMaker()
        arcs = self._drawn([reduced(w) for w in words])
        clash = _clash_of(arcs)
        while clash is not None:
            arcs = self._joined(arcs, clash)
            clash = _clash_of(arcs)
        self.ahead = {}
        for x, letter, y, row in arcs:
            self.ahead[(x, letter)] = (y, row)
            self.ahead[(y, -letter)] = (x, self.slate.turned(row))

    def _drawn(self, words):
        """The arcs of a closed path at 0 for each reduced word; the last one carries the word."""
        arcs = []
        many = 1
        for j, w in enumerate(words):
            x = 0
            for at, letter in enumerate(w):
                is_last = at == len(w) - 1
                y = 0 if is_last else many
                many += 0 if is_last else 1
                row = self.slate.put(("letter", j + 1)) if is_last else None
                arcs.append((x, letter, y, row) if letter > 0 else (y, -letter, x, self.slate.turned(row)))
                x = y
        return arcs

    def _joined(self, arcs, clash):
        """The arcs when two that clash are one."""
        one, two, is_start = clash
        at = 2 if is_start else 0
        if one[at] == two[at]:
            return [arc for arc in arcs if arc != two]
        # The point that goes is not 0, whose word must stay the empty one.
        if two[at] < one[at]:
            one, two = two, one
        if is_start:
            factor = self.slate.times(self.slate.turned(two[3]), one[3])
        else:
            factor = self.slate.times(two[3], self.slate.turned(one[3]))
        return self._led_over(arcs, two[at], one[at], factor)

    def _led_over(self, arcs, gone, kept, factor):
        """The arcs with a point in the place of another one, whose word times the factor is that of the point."""
        moved = {}
        for x, letter, y, row in arcs:
            if y == gone:
                y, row = kept, self.slate.times(row, factor)
            if x == gone:
                x, row = kept, self.slate.times(self.slate.turned(factor), row)
            moved[(x, letter, y, row)] = True
        return list(moved)

    def led_along(self, x, w):
        """The pair of the point to which a word leads x, and the row of the product of what its arcs carry."""
        number = None
        for letter in w:
            x, row = self.ahead[(x, letter)]
            number = self.slate.times(number, row)
        return (x, number)


def _filled_up(arrows, letter):
    """A permutation that leads each point where a letter does."""
    free = [y for y, ahead in enumerate(arrows) if -letter not in ahead]
    images = []
    for ahead in arrows:
        images.append(ahead[letter] if letter in ahead else free.pop())
    return tuple(images)


def parting_system(k, words, w):
    """A system of finitely many sheets in which some words are closed at 0, and a word that they do not make is not."""
    arrows = [dict(ahead) for ahead in arrows_by(words)]
    x = 0
    for letter in reduced(w):
        if letter not in arrows[x]:
            arrows[x][letter] = len(arrows)
            arrows.append({-letter: x})
        x = arrows[x][letter]
    return (len(arrows), tuple([_filled_up(arrows, letter) for letter in range(1, k + 1)]))
