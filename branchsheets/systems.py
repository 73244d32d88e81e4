"""Systems of sheets, covers, and the words that walk on them."""

from branchsheets.demands import demand, demand_within
from branchsheets.errors import Refused
from branchsheets.permutations import is_permutation
from branchsheets.plainperms import lengths_of, unit_of
from branchsheets.walks import genus_by_types, least_numbered, letter_rows, narrowed, numbered_in, opposite_word
from branchsheets.walks import part_rows, reached_from, reduced, renumbered, row_product, walked, word_row, words_from
from branchsheets.whole import is_integer

MOST_SHEETS = 24
MOST_LETTERS = 12
LONGEST_WORD = 2000


def is_system(value):
    if not (isinstance(value, tuple) and len(value) == 2):
        return False
    d, perms = value
    if not (is_integer(d) and 0 <= d <= MOST_SHEETS):
        return False
    if not (isinstance(perms, tuple) and len(perms) <= MOST_LETTERS):
        return False
    return all([is_permutation(p) and len(p) == d for p in perms])


def is_cover(value):
    return is_system(value) and is_closed(value) and is_connected(value)


def demand_system(S):
    """Raises Malformed, for every value, if it is no system."""
    demand(is_system(S), "system")


def demand_connected(S):
    """Raises Malformed, for every value, if it is no connected system."""
    demand(is_system(S) and is_connected(S), "connected system")


def refuse_unconnected(S):
    """Raises Refused if the system is not connected."""
    if not is_connected(S):
        raise Refused("connected")


def demand_sheet(S, x):
    """Raises Malformed, for every value, if it is no sheet of the system S."""
    demand(is_integer(x) and 0 <= x < S[0], "sheet")


def demand_word(w, k):
    """Raises Malformed, for every value, if it is no word of the rank k."""
    demand(is_word(w, k), "word")


def is_connected(S):
    demand_system(S)
    return len(part_rows(S[0], S[1])) == 1


def is_closed(S):
    demand_system(S)
    return row_product(S[0], S[1]) == unit_of(S[0])


def is_word(value, k):
    """True if the value is a word of the rank k."""
    demand(is_integer(k) and 0 <= k <= MOST_LETTERS, "rank")
    if not (isinstance(value, tuple) and len(value) <= LONGEST_WORD):
        return False
    return all([is_integer(letter) and 0 < abs(letter) <= k for letter in value])


def inverse_word(w, k):
    """The opposite letters, in the other order."""
    demand_word(w, k)
    return opposite_word(w)


def reduced_word(w, k):
    """The reduced word that a word becomes."""
    demand_word(w, k)
    return reduced(w)


def walk_word(S, x, w):
    """The sheet to which a word leads the sheet x."""
    demand_system(S)
    demand_sheet(S, x)
    demand_word(w, len(S[1]))
    return walked(letter_rows(S[1]), x, w)


def word_permutation(S, w):
    """The permutation of a word."""
    demand_system(S)
    demand_word(w, len(S[1]))
    return word_row(letter_rows(S[1]), S[0], w)


def system_parts(S):
    """The tuple of the parts, ascending tuples, in order."""
    demand_system(S)
    return tuple([tuple(part) for part in part_rows(S[0], S[1])])


def _is_part(S, value):
    # Items are asked first, because True is equal to 1 and is no sheet.
    if not (isinstance(value, tuple) and all([is_integer(x) for x in value])):
        return False
    return list(value) in part_rows(S[0], S[1])


def restricted_system(S, part):
    """The system on one of its parts, numbered by places."""
    demand_system(S)
    demand(_is_part(S, part), "part")
    return (len(part), narrowed(S[1], part))


def demand_rank(S, T):
    """Raises Malformed, for every value, if both are not systems of one rank."""
    demand_system(S)
    demand_system(T)
    demand(len(S[1]) == len(T[1]), "systems of one rank")


def demand_sheets(S, T):
    """Raises Malformed, for every value, if both are not systems of as many sheets."""
    demand_system(S)
    demand_system(T)
    demand(S[0] == T[0], "systems of as many sheets")


def system_beside(S, T):
    """The system with the sheets of both, those of T behind those of S."""
    demand_rank(S, T)
    d = S[0]
    demand_within(d + T[0], MOST_SHEETS, "large")
    perms = [p + tuple([d + y for y in q]) for p, q in zip(S[1], T[1])]
    return (d + T[0], tuple(perms))


def datum_of(S):
    """The tuple of the cycle types."""
    demand_system(S)
    return tuple([lengths_of(p) for p in S[1]])


def genus_of(S):
    """The genus of a cover."""
    demand(is_cover(S), "cover")
    return genus_by_types(S[0], datum_of(S))


def renumbered_system(S, f):
    """The system renumbered by a permutation of its sheets."""
    demand_system(S)
    demand(is_permutation(f) and len(f) == S[0], "permutation of the sheets")
    return renumbered(S, f)


def numbered_from(S, x):
    """The numbering of a connected system from the sheet x."""
    demand_connected(S)
    demand_sheet(S, x)
    return numbered_in(S, reached_from(S[1], x))


def least_system(S):
    """The least of the systems numbered from all sheets."""
    demand_connected(S)
    return least_numbered(S)


def leading_words(S, x):
    """The tuple of the leading words from x to each sheet of a connected system."""
    demand_connected(S)
    demand_sheet(S, x)
    return tuple(words_from(S[0], S[1], x))


def told_system(S, words):
    """The system of the permutations of at most 12 words."""
    demand_system(S)
    demand(isinstance(words, tuple) and len(words) <= MOST_LETTERS, "tuple of words")
    k = len(S[1])
    demand(all([is_word(w, k) for w in words]), "tuple of words")
    rows = letter_rows(S[1])
    return (S[0], tuple([word_row(rows, S[0], w) for w in words]))
