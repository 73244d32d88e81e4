"""Schreier words, without checks."""

from branchsheets.walks import opposite_word, reduced, words_from


def told_words(d, perms, x):
    """A dict from the pairs of a sheet and a letter to the words s(y, i) that are not empty, in order."""
    heads = words_from(d, perms, x)
    told = {}
    for y, head in enumerate(heads):
        for at, p in enumerate(perms):
            w = reduced(head + (at + 1,) + opposite_word(heads[p[y]]))
            if w:
                told[(y, at + 1)] = w
    return told
