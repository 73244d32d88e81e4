"""Points 18.5 and 18.6: plain data and logs, written and read, and the first wrong entry."""

import random
import unittest

from branchsheets.errors import Malformed, NoText
from branchsheets.log import first_wrong, read_data, read_log, write_data, write_log
from branchsheets.replies import Reply
from helpers import VALUES, nested, whole

# Data, and their written forms.
DATA = [(0, "0"), (-1, "-1"), (10 ** 60, "1" + "0" * 60), (-10 ** 3999, "-1" + "0" * 3999), ("a", "a"),
        ("abcdefghijkl", "abcdefghijkl"), ((), "()"), ((1,), "(1)"), ((1, 2), "(1 2)"), (((),), "(())"),
        (((), ()), "(() ())"), (("uneven", 1, (2,)), "(uneven 1 (2))"), (("a", ("b", -5), ()), "(a (b -5) ())"),
        (nested(60, tuple), "(" * 60 + ")" * 60), ((-1, (1, (2, "z"), 3)), "(-1 (1 (2 z) 3))")]


def label(value):
    return isinstance(value, str) and 1 <= len(value) <= 12 and all("a" <= sign <= "z" for sign in value)


def plain(value, depth=60):
    if isinstance(value, tuple):
        return depth > 0 and all(plain(item, depth - 1) for item in value)
    return whole(value) or label(value)


def random_data(source, depth):
    kind = source.randrange(4)
    if kind == 0 or depth == 0:
        return source.choice([0, 1, -1, 7, 12345, -10 ** 20, "a", "word", "abcdefghijkl"])
    return tuple(random_data(source, depth - 1) for _ in range(source.randint(0, 3)))


def no_text(case, at, function, text):
    with case.assertRaises(NoText, msg=repr(text)) as caught:
        function(text)
    case.assertEqual(caught.exception.at, at, repr(text))


class Data(unittest.TestCase):
    def test_forms(self):
        for data, text in DATA:
            self.assertEqual(write_data(data), text)
            self.assertEqual(read_data(text), data)

    def test_back_the_same(self):
        source = random.Random(61)
        for _ in range(400):
            data = random_data(source, 6)
            self.assertEqual(read_data(write_data(data)), data)

    def test_wrong_data(self):
        for value in VALUES + ["abcdefghijklm", "A", "a b", "a1", "-", nested(61, tuple), (True,), (1, (None,)), ([],), 1.5]:
            if plain(value):
                self.assertEqual(read_data(write_data(value)), value)
            else:
                self.assertRaises(Malformed, write_data, value)
                self.assertRaises(Malformed, write_data, (value,))
                self.assertRaises(Malformed, write_data, (1, ("a", value)))

    def test_nesting(self):
        for data in ("a", 1, ()):
            deep = data
            for _ in range(60 - (data == ())):
                deep = (deep,)
            self.assertEqual(read_data(write_data(deep)), deep)
            self.assertRaises(Malformed, write_data, (deep,))
            no_text(self, 0, read_data, "(" + write_data(deep) + ")")
        for text in ("(" * 61 + ")" * 61, "(" * 5000 + ")" * 5000, "(" * 5000, ")" * 5000, "(" * 61 + "1" + ")" * 61):
            no_text(self, 0, read_data, text)

    def test_wrong_texts(self):
        for text in ("", " ", "(", ")", "()()", "() ()", "( )", "(1 )", "( 1)", "(1  2)", "(1,2)", "1 ", " 1", "1 2", "a b",
                     "(1 2", "1 2)", ")(", "(()", "())", "01", "-0", "+1", "--1", "-", "1a", "a1", "A", "abcdefghijklm",
                     "(1)(2)", "(1(2))", "((1)2)", "(a)b", "a(b)", "(1\n2)", "(1\t2)", "[1]", "\u0663", "(1 2)\n", "1.0",
                     "None", "True", "(a  )", "() ", "(01)", "(-0)", "(A)", "(abcdefghijklm)"):
            no_text(self, 0, read_data, text)

    def test_values(self):
        for value in VALUES + [b"1", 1.5, ["1"], ("1",)]:
            if isinstance(value, str) and (label(value) or value in ("0", "1")):
                self.assertEqual(write_data(read_data(value)), value)
            else:
                no_text(self, 0, read_data, value)

    def test_one_sign_changed(self):
        source = random.Random(62)
        for _ in range(300):
            text = write_data(random_data(source, 4))
            at = source.randrange(len(text) + 1)
            other = source.choice([text[:at] + text[at + 1:], text[:at] + source.choice("() a1-A0\n") + text[at:],
                                   text[:at] + source.choice("() a1-A0\n") + text[at + 1:], text[:at]])
            try:
                data = read_data(other)
            except NoText as e:
                self.assertEqual(e.at, 0)
            else:
                self.assertEqual(write_data(data), other)


ENTRIES = [("system a = 2 1,0", Reply("system", "2 1,0")), ("galois a", Reply("galois", "yes", ("galois", ((0, 1), (1, 0))))),
           ("", Reply("done")), ("# > = #", Reply("done")), ("show b", Reply("error", "refused name")),
           ("order a", Reply("order", "2", ("order", 2, ((("letter", 1),), ((0, ((1, 0),)),))))), ("decks a", Reply("number", "2"))]
TEXT = ("> system a = 2 1,0\n= system 2 1,0\n# ()\n> galois a\n= galois yes\n# (galois ((0 1) (1 0)))\n> \n= done \n# ()\n"
        "> # > = #\n= done \n# ()\n> show b\n= error refused name\n# ()\n"
        "> order a\n= order 2\n# (order 2 (((letter 1)) ((0 ((1 0))))))\n> decks a\n= number 2\n# ()\n")


class Logs(unittest.TestCase):
    def test_told(self):
        self.assertEqual(write_log(ENTRIES), TEXT)
        self.assertEqual(read_log(TEXT), ENTRIES)
        self.assertIsInstance(read_log(TEXT), list)
        self.assertEqual((write_log([]), read_log("")), ("", []))

    def test_back_the_same(self):
        source = random.Random(63)
        for _ in range(60):
            entries = []
            for _ in range(source.randint(0, 6)):
                data = tuple(random_data(source, 4) for _ in range(source.randint(0, 3)))
                reply = Reply(source.choice(["a", "independent", "zz"]), source.choice(["", " ", "yes", "= x", "\r", "\u00e4"]), data)
                entries.append((source.choice(["", "> ", "show", "\t\u2028", "x" * 3000, "\x0b\x0c"]), reply))
            self.assertEqual(read_log(write_log(entries)), entries)

    def test_no_entries(self):
        good = ("show a", Reply("a", "b", (1,)))
        self.assertEqual(write_log([good]), "> show a\n= a b\n# (1)\n")
        for wrong in (("show\na", good[1]), (5, good[1]), (None, good[1]), ["show a", good[1]], ("show a",), good + (1,), good[1],
                      ("show a", ("a", "b", (1,))), ("show a", None), (b"show", good[1]),
                      ("show a", Reply("A", "b", ())), ("show a", Reply("", "b", ())), ("show a", Reply("a b", "b", ())),
                      ("show a", Reply("abcdefghijklm", "b", ())), ("show a", Reply(None, "b", ())),
                      ("show a", Reply("a", "b\n", ())), ("show a", Reply("a", None, ())), ("show a", Reply("a", 5, ())),
                      ("show a", Reply("a", "b", [])), ("show a", Reply("a", "b", 5)), ("show a", Reply("a", "b", "c")),
                      ("show a", Reply("a", "b", (True,))), ("show a", Reply("a", "b", (None,))),
                      ("show a", Reply("a", "b", ("A",))), ("show a", Reply("a", "b", (nested(60, tuple),)))):
            for entries in ([wrong], [good, wrong], [wrong, good]):
                self.assertRaises(Malformed, write_log, entries)
        for value in VALUES:
            self.assertRaises(Malformed, write_log, [value])
            self.assertRaises(Malformed, write_log, [good, (value, value)])

    def test_texts_that_are_none(self):
        for value in VALUES:
            if value != "" or not isinstance(value, str):
                no_text(self, 0, read_log, value)

    def test_told_lines(self):
        lines = TEXT.split("\n")[:-1]
        for at, line in enumerate(lines):
            wrong = {0: ["", ">", ">a", "<" + line[1:], " " + line, line[1:]],
                     1: ["", "=", "= ", "= a", "= A b", "=a b", "=  b", "= a\tb", "= abcdefghijklm x", "> a", "= a1 x"],
                     2: ["", "#", "# ", "#()", "# 1", "# a", "# (", "# () ", "#  ()", "# ()()", "= ()", "# (A)"]}[at % 3]
            for other in wrong:
                no_text(self, at, read_log, "\n".join(lines[:at] + [other] + lines[at + 1:]) + "\n")
            # A line that is left out, or stands twice, is noticed where the next one is due.
            for rows in (lines[:at] + lines[at + 1:], lines[:at + 1] + lines[at:]):
                self.check("\n".join(rows) + "\n")

    def check(self, text):
        """NoText with the line that is told, by going through the lines; or the entries with this written form."""
        rows = text.split("\n")
        wrong = None
        for at, row in enumerate(rows[:-1]):
            good = [row[:2] == "> ", row[:2] == "= " and " " in row[2:] and label(row[2:].split(" ")[0]),
                    row[:2] == "# " and is_tuple_text(row[2:])][at % 3]
            if not good and wrong is None:
                wrong = at
        if wrong is None and (rows[-1] != "" or len(rows) % 3 != 1):
            wrong = text.count("\n")
        if wrong is None:
            self.assertEqual(write_log(read_log(text)), text)
        else:
            no_text(self, wrong, read_log, text)

    def test_cut_at_each_place(self):
        for at in range(len(TEXT)):
            self.check(TEXT[:at])
            if TEXT[:at].count("\n") % 3 or not TEXT[:at].endswith("\n") and at:
                no_text(self, TEXT[:at].count("\n"), read_log, TEXT[:at])
            self.check(TEXT[at:])

    def test_one_sign_changed(self):
        source = random.Random(64)
        for at in range(len(TEXT)):
            for sign in source.sample("> =#()a1-\n", 4):
                self.check(TEXT[:at] + sign + TEXT[at + 1:])
                self.check(TEXT[:at] + sign + TEXT[at:])
            self.check(TEXT[:at] + TEXT[at + 1:])

    def test_ends(self):
        no_text(self, 0, read_log, "\n")
        no_text(self, 0, read_log, "> a")
        no_text(self, 1, read_log, "> a\n")
        no_text(self, 2, read_log, "> a\n= a \n")
        no_text(self, 2, read_log, "> a\n= a \n# ()")
        self.assertEqual(read_log("> a\n= a \n# ()\n"), [("a", Reply("a"))])
        no_text(self, 3, read_log, "> a\n= a \n# ()\n\n")
        no_text(self, 3, read_log, "> a\n= a \n# ()\n> b")
        no_text(self, 1, read_log, "> a\r\n= a\r\n# ()\r\n")


def is_tuple_text(text):
    try:
        return isinstance(read_data(text), tuple)
    except NoText:
        return False


class FirstWrong(unittest.TestCase):
    def test_nothing_changes(self):
        entries = list(ENTRIES) + [("x", Reply("error", "malformed"))]
        before = list(entries)
        self.assertEqual((first_wrong(entries), first_wrong(entries)), (len(ENTRIES), len(ENTRIES)))
        self.assertEqual(write_log(entries), write_log(before))
        self.assertEqual(entries, before)

    def test_right(self):
        self.assertEqual(first_wrong(ENTRIES), -1)
        self.assertEqual(first_wrong([]), -1)
        self.assertEqual(first_wrong(read_log(TEXT)), -1)

    def test_each_item(self):
        for at in range(len(ENTRIES)):
            for other in (None, (), ("x",), (ENTRIES[at][0], Reply("error", "malformed")), list(ENTRIES[at]), 5,
                          (ENTRIES[at][0], Reply(ENTRIES[at][1].kind, ENTRIES[at][1].text + " ", ENTRIES[at][1].data))):
                self.assertEqual(first_wrong(ENTRIES[:at] + [other] + ENTRIES[at + 1:]), at)
                self.assertEqual(first_wrong(ENTRIES[:at] + [other, other]), at)

    def test_definitions(self):
        # Without the first line the next one leads to an error.
        self.assertEqual(first_wrong(ENTRIES[1:]), 0)
        self.assertEqual(first_wrong(ENTRIES[2:]), 3)
        defined = ("system b = 3", Reply("system", "3"))
        self.assertEqual(first_wrong(ENTRIES[:1] + [defined] + ENTRIES[1:]), 5)
        again = ("swaps a = 3 0,1 1,2", Reply("system", "3 1,0,2 0,2,1"))
        self.assertEqual(first_wrong(ENTRIES[:1] + [again] + ENTRIES[1:]), 2)
        # A line that leads to an error defines nothing.
        failed = ("swaps a = 3 0,1 1,3", Reply("error", "malformed"))
        self.assertEqual(first_wrong(ENTRIES[:1] + [failed] + ENTRIES[1:]), -1)


if __name__ == "__main__":
    unittest.main()
