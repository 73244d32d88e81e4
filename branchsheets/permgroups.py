"""Monodromy groups: orders, members, cosets, orbits and derived groups."""

from branchsheets.demands import demand, demand_within
from branchsheets.permutations import is_permutation
from branchsheets.plainperms import lengths_of, then, turned, turned_about, unit_of
from branchsheets.systems import demand_sheets, demand_system
from branchsheets.towers import tower_of, Tower
from branchsheets.walks import letter_rows, part_rows
from branchsheets.whole import factorial_of, is_integer

MOST_MEMBERS = 5040
MOST_TYPED = 40320


def _tower(S):
    demand_system(S)
    return tower_of(S[0], S[1])


def _demand_member_form(S, p):
    demand_system(S)
    demand(is_permutation(p) and len(p) == S[0], "permutation of the sheets")


def group_order(S):
    """The number of the members."""
    return _tower(S).order()


def told_base(S):
    """The told base, ascending."""
    return tuple(_tower(S).base())


def base_orbits(S):
    """The tuple of the orbits of the told base."""
    tower = _tower(S)
    return tuple([tuple(sorted(tower.orbits[b])) for b in tower.base()])


def least_ladder(S):
    """The tuple of the pairs of a sheet of the base and its told steps."""
    tower = _tower(S)
    levels = []
    for b in tower.base():
        steps = [(y, tower.least_step(b, y)) for y in sorted(tower.orbits[b])]
        # The member that leaves all sheets is the least of all.
        levels.append((b, tuple(steps)))
    return tuple(levels)


def sifted_through(S, p):
    """The number of the levels that p passes, and what the told steps leave of it."""
    _demand_member_form(S, p)
    tower = _tower(S)
    base = tower.base()
    for at, b in enumerate(base):
        if p[b] not in tower.steps[b]:
            return (at, p)
        p = then(p, turned(tower.least_step(b, p[b])))
    return (len(base), p)


def is_member(S, p):
    """True if p is a member."""
    _demand_member_form(S, p)
    return _tower(S).has_member(p)


def is_group_within(S, T):
    """True if each member of the group of S is one of that of T."""
    demand_sheets(S, T)
    tower = _tower(T)
    return all([tower.has_member(p) for p in S[1]])


def same_group(S, T):
    """True if both groups have the same members."""
    return is_group_within(S, T) and is_group_within(T, S)


def least_of_coset(S, p):
    """The least of the products of a member and p."""
    _demand_member_form(S, p)
    return _tower(S).least_beside(p, 0)


def _listed_tower(S):
    """The tower of a group whose members are few enough to be listed."""
    tower = _tower(S)
    demand_within(tower.order(), MOST_MEMBERS, "many")
    return tower


def group_members(S):
    """The ascending tuple of all members."""
    return tuple(_listed_tower(S).members())


def least_word_to(S, p):
    """The least word whose permutation is p, or None."""
    _demand_member_form(S, p)
    if not _listed_tower(S).has_member(p):
        return None
    rows = letter_rows(S[1])
    words = {unit_of(S[0]): ()}
    waiting = list(words)
    at = 0
    # In the order of words a member is met by its least word first.
    while p not in words:
        q = waiting[at]
        for letter, row in rows.items():
            ahead = then(q, row)
            if ahead not in words:
                words[ahead] = words[q] + (letter,)
                waiting.append(ahead)
        at += 1
    return words[p]


def _class_of(g, perms):
    """A dict with the members of the class of g."""
    found = {g: True}
    waiting = [g]
    while waiting:
        h = waiting.pop()
        for p in perms:
            ahead = turned_about(h, p)
            if ahead not in found:
                found[ahead] = True
                waiting.append(ahead)
    return found


def conjugacy_sizes(S):
    """The ascending tuple of the numbers of members of all classes."""
    met = {}
    sizes = []
    for g in _listed_tower(S).members():
        if g not in met:
            found = _class_of(g, S[1])
            sizes.append(len(found))
            met.update(found)
    return tuple(sorted(sizes))


def type_numbers(S):
    """The ascending tuple of the pairs of a cycle type and the number of its members."""
    tower = _tower(S)
    demand_within(tower.order(), MOST_TYPED, "many")
    numbers = {}
    for p in tower.members():
        lengths = lengths_of(p)
        numbers[lengths] = numbers.get(lengths, 0) + 1
    return tuple(sorted(numbers.items()))


def _is_ascending(sheets, d):
    if not isinstance(sheets, tuple):
        return False
    if not all([is_integer(x) and 0 <= x < d for x in sheets]):
        return False
    return all([sheets[i] < sheets[i + 1] for i in range(len(sheets) - 1)])


def orbits_fixing(S, sheets):
    """The ascending tuple of the orbits under the members that leave some sheets."""
    demand_system(S)
    d, perms = S
    demand(_is_ascending(sheets, d), "ascending tuple of sheets")
    # With these sheets in front, a level of the tower has just those members.
    order = sheets + tuple([x for x in range(d) if x not in sheets])
    places = turned(order)
    tower = tower_of(d, [turned_about(p, places) for p in perms])
    orbits = part_rows(d, tower.makers[len(sheets)])
    return tuple(sorted([tuple(sorted([order[x] for x in orbit])) for orbit in orbits]))


def transitive_degree(S):
    """The greatest degree to which the group is transitive."""
    tower = _tower(S)
    degree = 0
    while degree < tower.d and len(tower.orbits[degree]) == tower.d - degree:
        degree += 1
    return degree


def _commutators(makers):
    return [then(then(g, h), then(turned(g), turned(h))) for at, g in enumerate(makers) for h in makers[:at]]


def _derived_tower(tower):
    """The tower of the derived group."""
    makers = tower.makers[0]
    derived = Tower(tower.d)
    waiting = _commutators(makers)
    while waiting:
        c = waiting.pop()
        if derived.take_in(c):
            waiting.extend([turned_about(c, g) for g in makers])
    return derived


def derived_orders(S):
    """The orders of the group, of its derived group, and so on, as long as they fall."""
    tower = _tower(S)
    orders = [tower.order()]
    while orders[-1] > 1:
        tower = _derived_tower(tower)
        if tower.order() == orders[-1]:
            break
        orders.append(tower.order())
    return tuple(orders)


def is_solvable(S):
    """True if the last derived order is 1."""
    return derived_orders(S)[-1] == 1


def is_giant(S):
    """True if all even permutations of the sheets are members."""
    # A group with half of all permutations has just the even ones, as it has all squares.
    return 2 * group_order(S) >= factorial_of(S[0])
