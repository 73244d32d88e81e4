"""Ladders of groups: how they are made, and whether a value is one; without checks of the system."""

from branchsheets.paperforms import are_integers, is_place, is_tuple_of
from branchsheets.plainperms import then, turned, unit_of
from branchsheets.slates import slate_things, SlateMaker
from branchsheets.towers import tower_of
from branchsheets.walks import letter_rows


def slate_perms(S, slate):
    """The list of the permutations for which the rows of a slate stand; None if the value is no slate."""
    return slate_things(slate, letter_rows(S[1]), turned, then)


def _step_backs(S, perms, level, firsts):
    """A dict from the sheets of the steps of a level to the inverses of their permutations; None if it is no level.

    `perms` are those of the slate, `firsts` the sheets of the earlier levels.
    """
    if not (is_tuple_of(level, 2) and is_place(level[0], S[0]) and isinstance(level[1], tuple)):
        return None
    b, steps = level
    if b in firsts or not all([are_integers(step, 2) and is_place(step[1], len(perms)) for step in steps]):
        return None
    if not all([steps[at][0] < steps[at + 1][0] for at in range(len(steps) - 1)]):
        return None
    backs = {}
    for y, i in steps:
        p = perms[i]
        if y == b or p[b] != y or not all([p[x] == x for x in firsts]):
            return None
        backs[y] = turned(p)
    return backs


def _levels_of(S, ladder):
    """The list of the pairs of a sheet and the inverses of its steps; None if the value has not this form."""
    if not (is_tuple_of(ladder, 2) and isinstance(ladder[1], tuple)):
        return None
    perms = slate_perms(S, ladder[0])
    if perms is None:
        return None
    levels = []
    for level in ladder[1]:
        backs = _step_backs(S, perms, level, [b for b, _ in levels])
        if backs is None:
            return None
        levels.append((level[0], backs))
    return levels


def sifts_to_one(levels, first, p):
    """True if a permutation passes all levels from one on, and nothing is left of it."""
    for b, backs in levels[first:]:
        if p[b] != b:
            if p[b] not in backs:
                return False
            p = then(p, backs[p[b]])
    return p == unit_of(len(p))


def _is_closed(levels):
    """True if all products of a step and one of its level or a later one sift to one."""
    rows = [[turned(back) for back in backs.values()] for _, backs in levels]
    for at, ones in enumerate(rows):
        for others in rows[at:]:
            if not all([sifts_to_one(levels, at, then(u, t)) for u in ones for t in others]):
                return False
    return True


def ladder_levels(S, ladder):
    """The levels of a ladder of the system, for sifting; None if the value is no ladder."""
    levels = _levels_of(S, ladder)
    if levels is None or not all([sifts_to_one(levels, 0, p) for p in S[1]]) or not _is_closed(levels):
        return None
    return levels


def levels_order(levels):
    """The product of the numbers of steps, each with 1 added."""
    order = 1
    for _, backs in levels:
        order = order * (len(backs) + 1)
    return order


class LadderMaker:
    """Steps of a group for each sheet b, that leave the sheets below b, with the rows of a slate for them."""

    def __init__(self, S):
        d, perms = S
        self.d = d
        self.slate = SlateMaker()
        self.steps = [{} for _ in range(d)]
        # The permutations, their inverses and the levels of the rows of steps.
        self.perms = {}
        self.backs = {}
        self.places = {}
        self.waiting = []
        for at, p in enumerate(perms):
            self._take_in(p, ("letter", at + 1))
        # The orbits tell how many steps there will be, so no further product need be tried then.
        missing = sum([len(orbit) - 1 for orbit in tower_of(d, perms).orbits])
        while len(self.perms) < missing:
            i, j = self.waiting.pop()
            self._take_in(then(self.perms[i], self.perms[j]), ("times", i, j))

    def _divided(self, p):
        """The level where sifting ends, what is left, and the rows of the steps that p was divided by."""
        path = []
        for b in range(self.d):
            if p[b] != b:
                if p[b] not in self.steps[b]:
                    return (b, p, path)
                i = self.steps[b][p[b]]
                path.append(i)
                p = then(p, self.backs[i])
        return (self.d, p, path)

    def _take_in(self, p, row):
        """Makes a step of what is left of a permutation for which a row stands."""
        level, left, path = self._divided(p)
        if level == self.d:
            return
        number = self.slate.put(row)
        for i in path:
            number = self.slate.times(number, self.slate.turned(i))
        self.steps[level][left[level]] = number
        self.perms[number] = left
        self.backs[number] = turned(left)
        self.places[number] = level
        for other, place in self.places.items():
            if level <= place:
                self.waiting.append((number, other))
            if place <= level and other != number:
                self.waiting.append((other, number))

    def order(self):
        """The number of the members."""
        order = 1
        for steps in self.steps:
            order = order * (len(steps) + 1)
        return order

    def ladder(self):
        """The ladder of the steps, with the rows that it needs."""
        rows, numbers = self.slate.kept_rows(list(self.perms))
        levels = []
        for b, steps in enumerate(self.steps):
            if steps:
                levels.append((b, tuple([(y, numbers[steps[y]]) for y in sorted(steps)])))
        return (rows, tuple(levels))

    def slate_of(self, p):
        """A slate whose last row stands for p, empty for the one that leaves all sheets; None if p is no member."""
        level, _, path = self._divided(p)
        if level < self.d:
            return None
        number = None
        for i in path[::-1]:
            number = self.slate.times(number, i)
        rows, _ = self.slate.kept_rows([] if number is None else [number])
        return rows
