"""Groups of permutations by a tower of members that leave more and more sheets (Schreier, Sims)."""

from branchsheets.plainperms import then, turned, unit_of


class Tower:
    """A group of permutations of d sheets.

    The level b has the members that leave all sheets below b. Kept are some
    members that make them all, the orbit of b under them, and for each sheet y
    of the orbit a step: one of them that leads b to y.
    """

    def __init__(self, d):
        unit = unit_of(d)
        self.d = d
        self.makers = [[] for _ in range(d + 1)]
        self.orbits = [[b] for b in range(d)]
        self.steps = [{b: unit} for b in range(d)]
        self.backs = [{b: unit} for b in range(d)]
        # For each level and each of its makers: with how many sheets of the orbit it is done.
        self.done = [[] for _ in range(d)]

    def sift(self, p, level):
        """Divides p by steps from a level on: the level where that ends, and what is left."""
        for b in range(level, self.d):
            y = p[b]
            if y != b:
                if y not in self.backs[b]:
                    return (b, p)
                p = then(p, self.backs[b][y])
        return (self.d, p)

    def has_member(self, p):
        level, _ = self.sift(p, 0)
        return level == self.d

    def take_in(self, p):
        """Makes p a member; False if it is one already."""
        level, left = self.sift(p, 0)
        if level == self.d:
            return False
        self._put_in(left, 0, level)
        b = level
        while b >= 0:
            level, left = self._first_missing(b)
            if level < self.d:
                self._put_in(left, b + 1, level)
                b = level
            else:
                b -= 1
        return True

    def _put_in(self, p, first, last):
        for b in range(first, last + 1):
            self.makers[b].append(p)
            self.done[b].append(0)

    def _first_missing(self, b):
        """Widens the orbit of a level until a product does not sift through the next ones; (d, p) if all do."""
        at = 0
        while at < len(self.makers[b]):
            if self.done[b][at] == len(self.orbits[b]):
                at += 1
                continue
            y = self.orbits[b][self.done[b][at]]
            self.done[b][at] += 1
            p = then(self.steps[b][y], self.makers[b][at])
            if p[b] not in self.steps[b]:
                self._widen(b, p)
                # Earlier makers have not met the new sheet.
                at = 0
                continue
            level, left = self.sift(then(p, self.backs[b][p[b]]), b + 1)
            if level < self.d:
                return (level, left)
        return (self.d, unit_of(self.d))

    def _widen(self, b, p):
        self.orbits[b].append(p[b])
        self.steps[b][p[b]] = p
        self.backs[b][p[b]] = turned(p)

    def order(self):
        """The number of the members."""
        product = 1
        for orbit in self.orbits:
            product = product * len(orbit)
        return product

    def base(self):
        """The levels whose orbit has more than one sheet, ascending."""
        return [b for b in range(self.d) if len(self.orbits[b]) > 1]

    def least_beside(self, p, level):
        """The least of the products of a member of a level and p."""
        for b in range(level, self.d):
            if len(self.orbits[b]) > 1:
                _, y = min([(p[x], x) for x in self.orbits[b]])
                p = then(self.steps[b][y], p)
        return p

    def least_step(self, b, y):
        """The least member of the level b that leads b to y."""
        return self.least_beside(self.steps[b][y], b + 1)

    def members(self):
        """The list of all members, ascending."""
        rows = [unit_of(self.d)]
        for b in self.base()[::-1]:
            rows = [then(p, step) for step in self.steps[b].values() for p in rows]
        return sorted(rows)


def tower_of(d, perms):
    """The tower of the group that some permutations of d sheets make."""
    tower = Tower(d)
    for p in perms:
        tower.take_in(p)
    return tower
