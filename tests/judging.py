"""What the tests of judges use: papers that are spoiled in many ways, and words of a free group."""

import random

from branchsheets.errors import Malformed
from helpers import VALUES, whole

WORDS = ["alike", "apart", "over", "none", "galois", "uneven", "blocks", "primitive", "braid", "product", "parts",
         "counts", "walk", "odd", "short", "still", "graphs", "slate", "ladder", "order", "sheets", "index", "loose",
         "linked", "word", "by", "lengths", "swaps", "sign", "filled", "crossed", "tied", "trace", "system", "rows",
         "chain", "cycle", "crossing", "letter", "turned", "times"]

# Papers of every question, each of which fits hardly any other one.
PAPERS = [("alike", (0, 1, 2)), ("over", (0, 1, 2)), ("galois", ((0, 1), (1, 0))), ("uneven", 1, (2,)), ("none", ((),)),
          ("blocks", (0, 0, 1)), ("primitive", ((),)), ("braid", ()), ("braid", (1, 1)), ("product",), ("parts",),
          ("counts",), ("walk", ((2, 1),)), ("odd",), ("short",), ("short", 1), ("still",), ("graphs", (0, 1), ()),
          ("slate", ()), ("slate", (("letter", 1),)), ("ladder", ((), ())), ("order", 1, ((), ())),
          ("product", ()), ("sheets", 1, ((0,),)), ("index", (1, ((0,),)), (("letter", 1),), (0,)),
          ("loose", 1, ()), ("linked", (((1, 1),),)), ("word", ()), ("by", (0, 1, 2)), ("lengths", 1, (), ((0,),)),
          ("swaps", ()), ("swaps", ((0, 1),)), ("short", ((0,), (1,))), ("sign", ((0, 1),)), ("filled", (0, 0)),
          ("crossed", (0, 0)), ("apart", ()), ("tied", (1,), (0,)), ("trace", 0, (), ()), ("system", ()),
          ("rows", ((1,),)), ("chain", ()), ("cycle", 0, 1, 2), ("crossing", 0, 1, 2, 3)]


def form(paper, head, many):
    return isinstance(paper, tuple) and len(paper) == many + 1 and paper[0] == head


def integers(value, many=None):
    return isinstance(value, tuple) and all(whole(n) for n in value) and (many is None or len(value) == many)


def same(value, told):
    """True if both are equal, and of the same form in each place."""
    if isinstance(told, tuple):
        return isinstance(value, tuple) and len(value) == len(told) and all(map(same, value, told))
    return type(value) is type(told) and value == told


def spoiled(source, value):
    """A paper with something changed, left out, exchanged, one too many, or of another kind."""
    if whole(value):
        return source.choice([value + 1, value - 1, -value, True, False, None, 0, 1, str(value), (value,), 10 ** 60])
    if isinstance(value, str):
        return source.choice([value + "s", value.upper(), "", 0, None, (value,)] + WORDS)
    if isinstance(value, tuple) and value:
        at, other = source.randrange(len(value)), source.randrange(len(value))
        row = list(value)
        kind = source.randrange(9)
        if kind < 4:
            row[at] = spoiled(source, value[at])
        elif kind == 4:
            del row[at]
        elif kind == 5:
            row.insert(at, row[other])
        elif kind == 6:
            row[at], row[other] = row[other], row[at]
        elif kind == 7:
            return row
        else:
            row[at] = source.choice(VALUES)
        return tuple(row)
    return source.choice([(0,), (1,), ((),), [], None, (-1, 1)])


def misfits(value):
    """The values that have True or False in the place of 1 or 0, or a list in the place of a tuple, somewhere."""
    if whole(value) and value in (0, 1):
        yield bool(value)
    if isinstance(value, tuple):
        yield list(value)
        for at, item in enumerate(value):
            for other in misfits(item):
                yield value[:at] + (other,) + value[at + 1:]


def judged(case, judge, by_words, args, paper, seed, many=25):
    """The judge takes the paper, and of many others what the words of the point take, and nothing else."""
    case.assertIs(judge(*args, paper), True, (args, paper))
    case.assertIs(by_words(*args, paper), True, (args, paper))
    source = random.Random(seed)
    for _ in range(many):
        other = paper
        for _ in range(source.randint(1, 2)):
            other = spoiled(source, other)
        case.assertIs(judge(*args, other), by_words(*args, other), (args, other))
    others = list(misfits(paper))
    for other in source.sample(others, min(many, len(others))):
        case.assertIs(judge(*args, other), False, (args, other))


def strangers_judged(case, judge, by_words, args):
    """Values of all kinds, and papers of other questions, are judged by the words of the point."""
    for value in VALUES + PAPERS + [(word,) for word in WORDS] + [(word, value) for word in WORDS for value in VALUES]:
        case.assertIs(judge(*args, value), by_words(*args, value), (args, value))


def ahead_of_papers(case, judge, good, fits):
    """Each value that does not fit its place ahead of the paper must be Malformed, whatever the paper is."""
    papers = [None, (), ("product", ()), True]
    for place, fit in enumerate(fits):
        for at, value in enumerate(VALUES):
            if not fit(value):
                args = list(good)
                args[place] = value
                with case.assertRaises(Malformed, msg=f"{judge.__name__} {place} {value!r}"):
                    judge(*args, papers[at % len(papers)])


def shortened(w):
    """The reduced form, by leaving out neighbours again and again."""
    w = list(w)
    at = 0
    while at + 1 < len(w):
        if w[at] == -w[at + 1]:
            del w[at:at + 2]
            at = max(0, at - 1)
        else:
            at += 1
    return tuple(w)


def opposite(w):
    return tuple(-i for i in reversed(w))
