"""Point 18.1: lines of worksheets and their commands."""

import random
import unittest

from branchsheets.errors import NoText
from branchsheets.sheet import read_line
from helpers import VALUES

# Each row of the table: a line, and its command.
ROWS = [
    ("system s = 3 1,0,2 0,2,1", ("system", "s", 3, ((1, 0, 2), (0, 2, 1)))),
    ("swaps s = 3 0,1 1,2", ("swaps", "s", 3, ((0, 1), (1, 2)))),
    ("close t s", ("close", "t", "s")),
    ("least t s", ("least", "t", "s")),
    ("closure t s", ("closure", "t", "s")),
    ("beside t s u", ("beside", "t", "s", "u")),
    ("part t s 1", ("part", "t", "s", 1)),
    ("folded t s 0,1,0", ("folded", "t", "s", (0, 1, 0))),
    ("told t s 1,-2 - 3", ("told", "t", "s", ((1, -2), (), (3,)))),
    ("fibre t s u 0 2", ("fibre", "t", "s", "u", 0, 2)),
    ("show s", ("show", "s")), ("datum s", ("datum", "s")), ("genus s", ("genus", "s")),
    ("decks s", ("decks", "s")), ("parts s", ("parts", "s")), ("rank s", ("rank", "s")),
    ("covers 0 3 2,1 2,1 3", ("covers", 0, 3, ((2, 1), (2, 1), (3,)))),
    ("connected 1 2 2 2", ("connected", 1, 2, ((2,), (2,)))),
    ("tuples 4 4 3,1", ("tuples", 4, ((4,), (3, 1)))),
    ("constant 3,1 4 2,1,1", ("constant", (3, 1), (4,), (2, 1, 1))),
    ("character 3,2 2,2,1", ("character", (3, 2), (2, 2, 1))),
    ("double 2 1,1,1 3", ("double", 2, (1, 1, 1), (3,))),
    ("alike s t", ("alike", "s", "t")), ("over s t", ("over", "s", "t")),
    ("linked s t", ("linked", "s", "t")), ("braid s t", ("braid", "s", "t")),
    ("galois s", ("galois", "s")), ("blocks s", ("blocks", "s")), ("order s", ("order", "s")),
    ("member s 1,0,2", ("member", "s", (1, 0, 2))), ("filled s 1,-1,0", ("filled", "s", (1, -1, 0))),
    ("trace s 0,1", ("trace", "s", (0, 1))),
    ("independent s 1,0 0,1", ("independent", "s", ((1, 0), (0, 1)))),
    ("exists 3 2,1 2,1", ("exists", 3, ((2, 1), (2, 1)))),
    ("joining 1,2,0 4", ("joining", (1, 2, 0), 4)), ("swapped 1,2,0 2", ("swapped", (1, 2, 0), 2)),
    ("below 1,0,2", ("below", (1, 0, 2))), ("renumber 1,0 0,1", ("renumber", (1, 0), (0, 1))),
    ("walk 2 3,2 4,1", ("walk", 2, (3, 2), (4, 1))), ("graphs 2 2 2", ("graphs", 2, (2,), (2,))),
    ("product 2 2,2 1,2 1,-2", ("product", 2, (2, 2), ((1, 2), (1, -2)))),
    ("index 1 1,1", ("index", 1, ((1, 1),))),
]
# The words whose lines end in any number of lists, also none.
OPEN = {"system", "swaps", "told", "covers", "connected", "tuples", "independent", "exists", "product", "index"}


def refused_line(case, value):
    with case.assertRaises(NoText, msg=repr(value)) as caught:
        read_line(value)
    case.assertEqual(caught.exception.at, 0)


class Lines(unittest.TestCase):
    def test_rows(self):
        self.assertEqual(len(ROWS), 42)
        for line, command in ROWS:
            self.assertEqual(read_line(line), command)
            self.assertEqual(read_line("  " + line.replace(" ", "   ") + " "), command)

    def test_more_and_fewer_tokens(self):
        for line, command in ROWS:
            tokens = line.split()
            if tokens[0] in OPEN:
                fixed = len(tokens) - len(command[-1])
                for lists in ((), ("-",), ("1", "-2,3")):
                    told = {(): (), ("-",): ((),), ("1", "-2,3"): ((1,), (-2, 3))}[lists]
                    self.assertEqual(read_line(" ".join(tokens[:fixed] + list(lists))), command[:-1] + (told,))
                refused_line(self, " ".join(tokens[:fixed] + ["x"]))
                tokens = tokens[:fixed]
            else:
                for more in ("1", "a", "-", "="):
                    refused_line(self, line + " " + more)
            for at in range(1, len(tokens)):
                refused_line(self, " ".join(tokens[:at]))
                refused_line(self, " ".join(tokens[:at] + ["A"] + tokens[at + 1:]))
                refused_line(self, " ".join(tokens[:at] + ["1,"] + tokens[at + 1:]))
            refused_line(self, " ".join(["x"] + tokens))
            refused_line(self, line.replace(tokens[0], tokens[0] + "s", 1))
            refused_line(self, line.replace(tokens[0], tokens[0].upper(), 1))

    def test_exchanged_tokens(self):
        source = random.Random(41)
        told = dict(ROWS)
        for line, command in ROWS:
            for _ in range(8):
                tokens = line.split()
                source.shuffle(tokens)
                other = " ".join(tokens)
                if other not in told and tokens[0] != line.split()[0]:
                    if tokens[0] not in {row.split()[0] for row in told}:
                        refused_line(self, other)

    def test_names(self):
        for name in ("a", "z", "abcdefgh", "system", "zzzzzzzz", "show"):
            self.assertEqual(read_line("show " + name), ("show", name))
            self.assertEqual(read_line("close " + name + " " + name), ("close", name, name))
        for name in ("abcdefghi", "A", "aB", "a1", "1", "a-b", "a_b", "-", "=", "a,b", "#", "`", "{"):
            refused_line(self, "show " + name)
            refused_line(self, "least " + name + " a")
            refused_line(self, "system " + name + " = 1 0")

    def test_integers(self):
        for n in (0, 1, -1, 9, 10, 999999999999, -999999999999, 100000000000):
            self.assertEqual(read_line(f"part a b {n}"), ("part", "a", "b", n))
            self.assertEqual(read_line(f"below {n}"), ("below", (n,)))
            self.assertEqual(read_line(f"below 0,{n}"), ("below", (0, n)))
        for text in ("1000000000000", "-1000000000000", "00", "01", "-0", "-01", "+1", "1.0", "", "-", "--1", "1-", "1e2",
                     "0x1", "1_0", "9999999999999999"):
            refused_line(self, f"part a b {text}")
            if text not in ("", "-"):
                refused_line(self, f"below {text}")
            refused_line(self, f"below 1,{text}")
            refused_line(self, f"below {text},1")
        self.assertEqual(read_line("below -"), ("below", ()))
        refused_line(self, "part a b -")

    def test_lists(self):
        for n in (1, 2, 199, 200):
            self.assertEqual(read_line("below " + ",".join(["7"] * n)), ("below", (7,) * n))
        refused_line(self, "below " + ",".join(["7"] * 201))
        for text in (",", "1,", ",1", "1,,1", "1,-", "-,1", "-,-", "--", "(1)", "1;2"):
            refused_line(self, "below " + text)
        self.assertEqual(read_line("told a b " + "- " * 300), ("told", "a", "b", ((),) * 300))

    def test_equal_signs(self):
        for line in ("system a 1 0", "system a == 1 0", "system = a 1 0", "system a = = 1 0", "system a =1 0", "swaps a : 2",
                     "close a = b", "close a b ="):
            refused_line(self, line)

    def test_empty_lines(self):
        for line in ("", " ", " " * 2000, "#", "# a", "#show a", "# = , - ~ A" + "#" * 1900):
            self.assertEqual(read_line(line), ("empty",))
        for line in (" " * 2001, " #", " # a", "show a #", "empty", "#" * 2001, "# \n", "#\u00e9", "#\t"):
            refused_line(self, line)

    def test_lengths_and_signs(self):
        line = "show a".ljust(2000)
        self.assertEqual(read_line(line), ("show", "a"))
        refused_line(self, line + " ")
        for sign in ("\n", "\t", "\x1f", "\x7f", "\u00a0", "\u00e4", "\u0663", "\r", "\x00", "\u2003"):
            for other in ("show a" + sign, sign + "show a", "show" + sign + "a", "# " + sign, "below 1," + sign):
                refused_line(self, other)
        self.assertEqual(read_line("# ~ !"), ("empty",))

    def test_values(self):
        for value in VALUES:
            if isinstance(value, str) and value == "":
                self.assertEqual(read_line(value), ("empty",))
            else:
                refused_line(self, value)
        for value in (b"show a", ["show", "a"], ("show", "a"), 5.0):
            refused_line(self, value)


if __name__ == "__main__":
    unittest.main()
