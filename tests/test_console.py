"""Point 18.4: consoles."""

import random
import unittest

from branchsheets.console import Console
from branchsheets.errors import Malformed
from branchsheets.log import first_wrong, read_log, write_log
from branchsheets.replies import defined_by, Reply, reply_to
from helpers import VALUES, refused

LINES = ["swaps a = 3 0,1 1,2", "close b a", "show b", "genus b", "show c", "close b b", "least a b", "# nothing", "",
         "system b = 2 1,0", "close b b", "galois b", "order a", "close a a", "close a a", "close x who", "part c b 0", "wrong line",
         "exists 3 2,1 2,1", "trace b 0,1", "told d a 1,2 1", "over d d", "beside e d d", "parts e", "datum e"]


class Consoles(unittest.TestCase):
    def test_lines(self):
        console, names, entries = Console(), {}, []
        for line in LINES:
            told = reply_to(names, line)
            defined = defined_by(names, line)
            self.assertEqual(console.enter(line), told)
            if defined is not None:
                names[defined[0]] = defined[1]
            entries.append((line, told))
            self.assertEqual(console.names(), names)
            self.assertEqual((len(console), list(console)), (len(entries), entries))
            self.assertEqual(console.log(), write_log(entries))
        self.assertEqual(sorted(names), ["a", "b", "c", "d", "e"])
        self.assertEqual(first_wrong(list(console)), -1)
        self.assertEqual(read_log(console.log()), entries)

    def test_new(self):
        console = Console()
        self.assertEqual((len(console), list(console), console.names(), console.log()), (0, [], {}, ""))

    def test_definitions_in_place_of_earlier_ones(self):
        console = Console()
        console.enter("system a = 2 1,0")
        console.enter("system a = 3")
        self.assertEqual(console.names(), {"a": (3, ())})
        console.enter("system a = 2 1,1")
        self.assertEqual(console.names(), {"a": (3, ())})
        self.assertEqual([reply.kind for _, reply in console], ["system", "system", "error"])

    def test_names_are_new(self):
        console = Console()
        console.enter("system a = 2 1,0")
        names = console.names()
        self.assertIsInstance(names, dict)
        names["b"] = (1, ())
        names["a"] = None
        self.assertEqual(console.names(), {"a": (2, ((1, 0),))})
        self.assertEqual(console.enter("show b"), Reply("error", "refused name"))

    def test_bound(self):
        console = Console()
        for at in range(300):
            self.assertEqual(console.enter("" if at % 2 else "show a").kind, "done" if at % 2 else "error")
        self.assertEqual(len(console), 300)
        log = console.log()
        for line in ("", "system a = 1", "wrong", None):
            refused(self, "lines", console.enter, line)
        self.assertEqual((len(console), console.names(), console.log()), (300, {}, log))
        for most in (0, 1, 2, 5, 301):
            console = Console(most=most)
            for _ in range(most):
                console.enter("system a = 1")
            refused(self, "lines", console.enter, "system b = 1")
            self.assertEqual((len(console), console.names()), (most, {"a": (1, ())} if most else {}))

    def test_keyword_alone(self):
        self.assertRaises(TypeError, Console, 5)

    def test_two_consoles(self):
        one, two = Console(), Console()
        one.enter("system a = 1")
        self.assertEqual((len(two), two.names(), two.log()), (0, {}, ""))

    def test_iterating_gives_the_entries(self):
        console = Console()
        for line in LINES:
            console.enter(line)
        self.assertEqual([line for line, _ in console], LINES)
        self.assertEqual([entry for entry in console], list(iter(console)))
        self.assertTrue(all(isinstance(reply, Reply) for _, reply in console))

    def test_lines_that_cannot_be_written(self):
        for value in VALUES + ["show\na", "\n", b"show", 5.5]:
            console = Console()
            console.enter("system a = 1")
            reply = console.enter(value)
            self.assertEqual(reply, Reply("done") if value == "" else Reply("error", "text"))
            self.assertEqual(len(console), 2)
            self.assertEqual(first_wrong(list(console)), -1)
            if isinstance(value, str) and "\n" not in value:
                self.assertEqual(read_log(console.log()), list(console))
            else:
                self.assertRaises(Malformed, console.log)

    def test_random_lines(self):
        source = random.Random(71)
        for _ in range(20):
            console, names = Console(), {}
            for _ in range(40):
                name, other, d = source.choice("abc"), source.choice("abc"), source.randint(1, 5)
                row = list(range(d))
                source.shuffle(row)
                p = ",".join(map(str, row))
                line = source.choice([f"system {name} = {d} {p}", f"close {name} {other}", f"least {name} {other}", f"show {name}",
                                      f"part {name} {other} 0", f"alike {name} {other}", f"galois {name}", f"order {name}",
                                      f"member {name} {p}", f"below {p}", f"rank {name}", f"told {name} {other} 1,1 -1",
                                      f"blocks {name}", f"linked {name} {other}", f"closure {name} {other}",
                                      f"fibre {name} {other} {other} 0 0", f"independent {name}", f"trace {name} {p}"])
                self.assertEqual(console.enter(line), reply_to(names, line))
                defined = defined_by(names, line)
                if defined is not None:
                    names[defined[0]] = defined[1]
            self.assertEqual(console.names(), names)
            self.assertEqual(first_wrong(read_log(console.log())), -1)


if __name__ == "__main__":
    unittest.main()
