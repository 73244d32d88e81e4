"""Lines of a worksheet, read as commands."""

from branchsheets.errors import NoText
from branchsheets.smallwords import is_small_word
from branchsheets.whole import read_integer

LONGEST_LINE = 2000
LONGEST_NAME = 8
MOST_DIGITS = 12
MOST_ITEMS = 200

# The tokens behind the word of a line: N a name that is defined, A one that is used, i an
# integer, L a list, * any number of lists, also none.
FORMS = {
    "system": "N=i*", "swaps": "N=i*", "close": "NA", "least": "NA", "closure": "NA", "beside": "NAA", "part": "NAi",
    "folded": "NAL", "told": "NA*", "fibre": "NAAii",
    "show": "A", "datum": "A", "genus": "A", "decks": "A", "parts": "A", "rank": "A",
    "covers": "ii*", "connected": "ii*", "tuples": "i*", "constant": "LLL", "character": "LL", "double": "iLL",
    "alike": "AA", "over": "AA", "linked": "AA", "braid": "AA", "galois": "A", "blocks": "A", "order": "A",
    "member": "AL", "filled": "AL", "trace": "AL", "independent": "A*", "exists": "i*", "joining": "Li",
    "swapped": "Li", "below": "L", "renumber": "LL", "walk": "iLL", "graphs": "iLL", "product": "iL*", "index": "i*",
}


def signs_of(word):
    """One sign for each item of the command of a word: N, A, i, L or *."""
    return FORMS.get(word, "").replace("=", "")


def is_defining(word):
    """True if a line with this word defines a name."""
    return signs_of(word).startswith("N")


def _read_number(token):
    digits = token[1:] if token.startswith("-") else token
    if len(digits) > MOST_DIGITS:
        raise NoText(0)
    return read_integer(token)


def _read_list(token):
    if token == "-":
        return ()
    parts = token.split(",")
    if len(parts) > MOST_ITEMS:
        raise NoText(0)
    return tuple([_read_number(part) for part in parts])


def _read_token(sign, token):
    """What a token stands for at a place of a form."""
    if sign == "i":
        return _read_number(token)
    if sign == "L":
        return _read_list(token)
    fits = token == "=" if sign == "=" else is_small_word(token, LONGEST_NAME)
    if not fits:
        raise NoText(0)
    return token


def _read_items(form, tokens):
    """The items that the tokens behind the word of a line stand for."""
    fixed = form.replace("*", "")
    rest = tokens[len(fixed):]
    if len(tokens) < len(fixed) or (rest and fixed == form):
        raise NoText(0)
    read = [(sign, _read_token(sign, token)) for sign, token in zip(fixed, tokens)]
    items = tuple([item for sign, item in read if sign != "="])
    return items if fixed == form else items + (tuple([_read_list(token) for token in rest]),)


def _is_line(value):
    if not (isinstance(value, str) and len(value) <= LONGEST_LINE):
        return False
    return all([" " <= sign <= "~" for sign in value])


def read_line(line):
    """The command of a line; NoText(0) for every value that is no line or has none of the forms."""
    if not _is_line(line):
        raise NoText(0)
    tokens = line.split()
    if not tokens or line.startswith("#"):
        return ("empty",)
    if tokens[0] not in FORMS:
        raise NoText(0)
    return (tokens[0],) + _read_items(FORMS[tokens[0]], tokens[1:])
