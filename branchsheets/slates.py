"""Slates: rows of letters, inverses and products, each of which stands for a permutation or a word."""

from branchsheets.paperforms import are_integers, is_form, is_place


def _thing_of(row, things, letters, turn, join):
    """What a row stands for, things being those of the earlier rows; None if it is no row."""
    for word, items in (("letter", 1), ("turned", 1), ("times", 2)):
        if is_form(row, word, items) and are_integers(row[1:], items):
            if word == "letter":
                return letters.get(row[1])
            if all([is_place(i, len(things)) for i in row[1:]]):
                return turn(things[row[1]]) if word == "turned" else join(things[row[1]], things[row[2]])
    return None


def slate_things(slate, letters, turn, join):
    """The list of what the rows of a slate stand for; None if the value is no slate.

    `letters` has what the letters stand for; `turn` and `join` tell the inverse and
    the product, or None where there is to be none.
    """
    if not isinstance(slate, tuple):
        return None
    things = []
    for row in slate:
        thing = _thing_of(row, things, letters, turn, join)
        if thing is None:
            return None
        things.append(thing)
    return things


class SlateMaker:
    """A slate that grows; no row stands in it twice. In the place of a row None stands for what does nothing."""

    def __init__(self):
        self.rows = []
        self.numbers = {}

    def put(self, row):
        """The number of a row, which is put on the slate if it is not there."""
        if row not in self.numbers:
            self.numbers[row] = len(self.rows)
            self.rows.append(row)
        return self.numbers[row]

    def turned(self, i):
        """The number of a row for the inverse."""
        if i is None:
            return None
        if self.rows[i][0] == "turned":
            return self.rows[i][1]
        return self.put(("turned", i))

    def times(self, i, j):
        """The number of a row for the product."""
        if i is None or j is None:
            return j if i is None else i
        return self.put(("times", i, j))

    def kept_rows(self, wanted):
        """The slate of the rows that some rows rest on, and a dict from the old numbers to the new ones."""
        needed = [False] * len(self.rows)
        for i in wanted:
            needed[i] = True
        for at in range(len(self.rows) - 1, -1, -1):
            if needed[at] and self.rows[at][0] != "letter":
                for i in self.rows[at][1:]:
                    needed[i] = True
        places = {}
        kept = []
        for at, row in enumerate(self.rows):
            if needed[at]:
                places[at] = len(kept)
                kept.append(row if row[0] == "letter" else row[:1] + tuple([places[i] for i in row[1:]]))
        return (tuple(kept), places)
