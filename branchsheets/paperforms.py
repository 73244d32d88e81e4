"""The forms of papers: True and False are no integers in them, and lists are no tuples."""

from branchsheets.whole import is_integer


def is_form(paper, word, items):
    """True if a paper is a tuple of a word and some items more."""
    return isinstance(paper, tuple) and len(paper) == items + 1 and paper[0] == word


def is_tuple_of(value, many):
    """True if the value is a tuple of so many items."""
    return isinstance(value, tuple) and len(value) == many


def are_integers(value, many):
    """True if the value is a tuple of so many integers."""
    return is_tuple_of(value, many) and all([is_integer(n) for n in value])


def is_place(value, many):
    """True if the value is an integer from 0 on below a number."""
    return is_integer(value) and 0 <= value < many


def is_same(value, told):
    """True if the value is an integer, or a tuple of tuples and integers, that is told, in its very form."""
    if not isinstance(told, tuple):
        return is_integer(value) and value == told
    if not is_tuple_of(value, len(told)):
        return False
    return all([is_same(one, two) for one, two in zip(value, told)])
