"""Points 18.2, 18.3 and 18.5: replies, definitions, and right entries."""

import itertools
import random
import unittest

from branchsheets import cells, classalgebra, coverings, cutjoin, decks, fibreproducts, rimhooks, systems
from branchsheets.coverjudges import takes_alike, takes_blocks, takes_galois, takes_over
from branchsheets.coverpapers import alike_paper, blocks_paper, galois_paper, over_paper
from branchsheets.datumjudges import takes_below, takes_datum, takes_joining
from branchsheets.datumpapers import below_paper, datum_paper, joining_paper
from branchsheets.errors import Malformed
from branchsheets.groupjudges import takes_index, takes_linked, takes_member, takes_order, takes_product
from branchsheets.grouppapers import index_paper, linked_paper, member_paper, order_paper, product_paper
from branchsheets.movejudges import takes_braid, takes_graphs, takes_walk
from branchsheets.movepapers import braid_paper, graphs_paper, walk_paper
from branchsheets.replies import defined_by, is_right, Reply, reply_to
from branchsheets.surfacejudges import takes_filled, takes_independent, takes_renumbered, takes_swaps, takes_trace
from branchsheets.surfacepapers import filled_paper, independent_paper, renumbered_paper, swaps_paper, trace_paper
from branchsheets.whole import ratio_text
from helpers import VALUES, nested, swap_row
from judging import PAPERS, misfits, spoiled

S = (3, ((1, 0, 2), (0, 2, 1), (1, 2, 0)))
TORUS = (3, ((1, 2, 0), (1, 2, 0), (1, 2, 0)))
SIX = (6, ((1, 2, 3, 4, 5, 0),))
TWO = (2, ((1, 0),))
APART = (4, ((1, 0, 2, 3), (0, 1, 3, 2)))
NAMES = {"s": S, "torus": TORUS, "six": SIX, "two": TWO, "apart": APART, "none": (0, ()), "bare": (3, ()),
         "many": (2, ((1, 0),) * 12), "big": (12, (swap_row(12, 0, 1),) * 12), "nine": (9, (tuple(range(9)),)),
         "long": (13, ()),
         "points": (7, ((1, 2, 3, 4, 5, 6, 0), (0, 1, 4, 3, 2, 6, 5))),
         "lines": (7, ((1, 2, 3, 4, 5, 6, 0), (0, 1, 3, 2, 6, 5, 4))),
         "swa": (3, ((1, 0, 2), (1, 0, 2), (2, 1, 0))), "swb": (3, ((2, 1, 0), (1, 0, 2), (1, 0, 2)))}

# For each line: the maker, its judge, their arguments, and the text.
PAPER_LINES = [
    ("alike s s", alike_paper, takes_alike, (S, S), "yes"), ("alike s torus", alike_paper, takes_alike, (S, TORUS), "no"),
    ("over six two", over_paper, takes_over, (SIX, TWO), "yes"), ("over two six", over_paper, takes_over, (TWO, SIX), "no"),
    ("linked points lines", linked_paper, takes_linked, (NAMES["points"], NAMES["lines"]), "yes"),
    ("linked s torus", linked_paper, takes_linked, (S, TORUS), "no"),
    ("braid swa swb", braid_paper, takes_braid, (NAMES["swa"][1], NAMES["swb"][1]), "yes"),
    ("braid swa swa", braid_paper, takes_braid, (NAMES["swa"][1], NAMES["swa"][1]), "yes"),
    ("galois six", galois_paper, takes_galois, (SIX,), "yes"), ("galois s", galois_paper, takes_galois, (S,), "no"),
    ("blocks six", blocks_paper, takes_blocks, (SIX,), "yes"), ("blocks s", blocks_paper, takes_blocks, (S,), "no"),
    ("order s", order_paper, takes_order, (S,), "6"), ("order none", order_paper, takes_order, ((0, ()),), "1"),
    ("member six 1,2,3,4,5,0", member_paper, takes_member, (SIX, (1, 2, 3, 4, 5, 0)), "yes"),
    ("member six 0,1,2,3,4,5", member_paper, takes_member, (SIX, (0, 1, 2, 3, 4, 5)), "yes"),
    ("member six 1,0,2,3,4,5", member_paper, takes_member, (SIX, (1, 0, 2, 3, 4, 5)), "no"),
    ("member none -", member_paper, takes_member, ((0, ()), ()), "yes"),
    ("filled torus 1,1,1,0,0,0,0,0,0", filled_paper, takes_filled, (TORUS, (1, 1, 1) + (0,) * 6), "yes"),
    ("filled torus 1,0,0,-1,0,0,0,0,0", filled_paper, takes_filled, (TORUS, (1, 0, 0, -1) + (0,) * 5), "no"),
    ("trace torus 1,2,0", trace_paper, takes_trace, (TORUS, (1, 2, 0)), "-1"),
    ("trace torus 0,1,2", trace_paper, takes_trace, (TORUS, (0, 1, 2)), "2"),
    ("independent torus 1,0,0,-1,0,0,0,0,0", independent_paper, takes_independent,
     (TORUS, ((1, 0, 0, -1, 0, 0, 0, 0, 0),)), "yes"),
    ("independent torus 1,1,1,0,0,0,0,0,0", independent_paper, takes_independent, (TORUS, ((1, 1, 1) + (0,) * 6,)), "no"),
    ("independent torus", independent_paper, takes_independent, (TORUS, ()), "yes"),
    ("exists 3 2,1 2,1", datum_paper, takes_datum, (3, ((2, 1), (2, 1))), "yes"),
    ("exists 3 2,1 2,1 2,1", datum_paper, takes_datum, (3, ((2, 1),) * 3), "no"),
    ("exists 4 2,2 3,1", datum_paper, takes_datum, (4, ((2, 2), (3, 1))), "no"),
    ("exists 1", datum_paper, takes_datum, (1, ()), "yes"),
    ("joining 0,1,2 4", joining_paper, takes_joining, ((0, 1, 2), 4), "yes"),
    ("joining 0,1,2 2", joining_paper, takes_joining, ((0, 1, 2), 2), "no"),
    ("joining 1,2,0 3", joining_paper, takes_joining, ((1, 2, 0), 3), "no"),
    ("swapped 1,2,0 2", swaps_paper, takes_swaps, ((1, 2, 0), 2), "yes"),
    ("swapped 1,2,0 1", swaps_paper, takes_swaps, ((1, 2, 0), 1), "no"),
    ("swapped 0 1", swaps_paper, takes_swaps, ((0,), 1), "no"),
    ("swapped - 0", swaps_paper, takes_swaps, ((), 0), "yes"),
    ("below 1,0,2", below_paper, takes_below, ((1, 0, 2),), "yes"),
    ("below 2,0,1", below_paper, takes_below, ((2, 0, 1),), "no"),
    ("below 2,3,0,1", below_paper, takes_below, ((2, 3, 0, 1),), "no"),
    ("renumber 1,0,2 0,2,1", renumbered_paper, takes_renumbered, ((1, 0, 2), (0, 2, 1)), "yes"),
    ("renumber 1,0,2 0,1,2", renumbered_paper, takes_renumbered, ((1, 0, 2), (0, 1, 2)), "no"),
    ("walk 2 3,2 4,1", walk_paper, takes_walk, ((3, 2), (4, 1), 2), "yes"),
    ("walk 1 3,2 4,1", walk_paper, takes_walk, ((3, 2), (4, 1), 1), "no"),
    ("walk 0 3,2 4,1", walk_paper, takes_walk, ((3, 2), (4, 1), 0), "no"),
    ("walk 2 1 1", walk_paper, takes_walk, ((1,), (1,), 2), "no"),
    ("graphs 2 2 2", graphs_paper, takes_graphs, ((2,), (2,), 2), "1/2"),
    ("graphs 1 2,1 3", graphs_paper, takes_graphs, ((2, 1), (3,), 1), "1"),
    ("graphs 1 2 2", graphs_paper, takes_graphs, ((2,), (2,), 1), "0"),
    ("product 2 2,2 1,2 1,-2", product_paper, takes_product, (2, ((1, 2), (1, -2)), (2, 2)), "yes"),
    ("product 2 1,1 1,2 1,-2", product_paper, takes_product, (2, ((1, 2), (1, -2)), (1, 1)), "no"),
    ("product 2 -", product_paper, takes_product, (2, (), ()), "yes"),
    ("index 2 1,1 2,2 1,2", index_paper, takes_index, (2, ((1, 1), (2, 2), (1, 2))), "2"),
    ("index 2 1,2", index_paper, takes_index, (2, ((1, 2),)), "none"),
    ("index 1", index_paper, takes_index, (1, ()), "none"),
]

NUMBER_LINES = [
    ("genus s", systems.genus_of(S)), ("genus torus", systems.genus_of(TORUS)), ("decks six", len(decks.deck_maps(SIX))),
    ("decks s", 1), ("parts apart", 2), ("parts none", 0), ("parts bare", 3), ("rank torus", cells.loop_rank(TORUS)),
    ("rank bare", 0), ("covers 0 3 2,1 2,1 3", coverings.cover_number(0, 3, ((2, 1), (2, 1), (3,)))),
    ("covers 1 3", coverings.cover_number(1, 3, ())), ("connected 1 4", coverings.connected_number(1, 4, ())),
    ("covers 4 12", coverings.cover_number(4, 12, ())), ("tuples 4 4 4 3,1", classalgebra.tuple_number(((4,), (4,), (3, 1)), 4)),
    ("tuples 5", 1), ("tuples 0 - -", 1), ("constant 2,1,1 2,1,1 3,1", 3), ("constant 3,1 4 2,1,1", 4),
    ("character 3,2 2,2,1", 1), ("character 2,1 3", -1), ("character - -", rimhooks.rim_character((), ())),
]

SYSTEM_LINES = [
    ("system x = 3 1,0,2 0,2,1", "x", (3, ((1, 0, 2), (0, 2, 1))), "3 1,0,2 0,2,1"),
    ("system s = 0 -", "s", (0, ((),)), "0 -"), ("system x = 5", "x", (5, ()), "5"), ("system x = 1 0", "x", (1, ((0,),)), "1 0"),
    ("swaps x = 3 0,1 1,2", "x", (3, ((1, 0, 2), (0, 2, 1))), "3 1,0,2 0,2,1"), ("swaps x = 24", "x", (24, ()), "24"),
    ("swaps x = 2" + " 0,1" * 12, "x", (2, ((1, 0),) * 12), None), ("system x = 1" + " 0" * 12, "x", (1, ((0,),) * 12), None),
    ("close x two", "x", (2, ((1, 0), (1, 0))), "2 1,0 1,0"), ("close two two", "two", (2, ((1, 0), (1, 0))), "2 1,0 1,0"),
    ("close x bare", "x", (3, ((0, 1, 2),)), "3 0,1,2"), ("close x apart", "x", (4, APART[1] + ((1, 0, 3, 2),)), None),
    ("least x s", "x", systems.least_system(S), None), ("closure x s", "x", fibreproducts.closure_system(S), None),
    ("beside x two six", "x", systems.system_beside(TWO, SIX), None), ("part x apart 0", "x", (2, ((1, 0), (0, 1))), None),
    ("part x apart 1", "x", (2, ((0, 1), (1, 0))), None), ("folded x six 0,1,0,1,0,1", "x", TWO, "2 1,0"),
    ("told x s 1,2 - -3", "x", systems.told_system(S, ((1, 2), (), (-3,))), None), ("told x s", "x", (3, ()), "3"),
    ("fibre x s s 0 1", "x", fibreproducts.part_system(S, S, 0, 1), None), ("fibre six two two 0 0", "six", TWO, "2 1,0"),
]

# Lines that lead to an error, with its text.
WRONG_LINES = [
    ("show", "text"), ("show A", "text"), ("shows s", "text"), ("part x s one", "text"), (None, "text"), (5, "text"),
    ("show s\n", "text"), ("system s = 3 1,0,2,", "text"), ("genus s s", "text"), (" # s", "text"),
    ("show who", "refused name"), ("close two who", "refused name"), ("close x x", "refused name"),
    ("beside x two who", "refused name"), ("beside x who two", "refused name"), ("member who 5,5", "refused name"),
    ("part x who 9", "refused name"), ("fibre x two who 9 9", "refused name"), ("alike who two", "refused name"),
    ("alike two who", "refused name"), ("independent who 1", "refused name"), ("trace who 7", "refused name"),
    ("system x = 3 1,0", "malformed"), ("system x = 25", "malformed"), ("system x = -1", "malformed"),
    ("system x = 2 1,1", "malformed"), ("system x = 1" + " 0" * 13, "malformed"), ("system x = 999999999999", "malformed"),
    ("swaps x = 3 1,0", "malformed"), ("swaps x = 3 0,3", "malformed"), ("swaps x = 3 0,1,2", "malformed"),
    ("swaps x = 3 0,0", "malformed"), ("swaps x = 3 -", "malformed"), ("swaps x = 25 0,1", "malformed"),
    ("swaps x = 3" + " 0,1" * 13, "malformed"), ("swaps x = -1", "malformed"), ("swaps x = 999999999999 0,1", "malformed"),
    ("close x many", "malformed"), ("least x apart", "malformed"), ("beside x two s", "malformed"),
    ("part x apart 2", "malformed"), ("part x apart -1", "malformed"), ("part x none 0", "malformed"),
    ("folded x six 0,1,2", "malformed"), ("folded x six 0,0,1,1,2,2", "malformed"), ("folded x apart 0,0,1,1", "malformed"),
    ("told x s 4", "malformed"), ("told x s" + " 1" * 13, "malformed"), ("fibre x two two 2 0", "malformed"),
    ("fibre x two s 0 0", "malformed"), ("genus two", "malformed"), ("decks apart", "malformed"), ("rank two", "malformed"),
    ("covers 5 3", "malformed"), ("covers 0 13", "malformed"), ("covers 0 3 2", "malformed"), ("connected 0 -1", "malformed"),
    ("covers 0 2" + " 2" * 7, "malformed"), ("tuples 3 2", "malformed"), ("tuples -1", "malformed"),
    ("constant 1 2 2", "malformed"), ("character 1,2 3", "malformed"), ("double -1 2 2", "malformed"),
    ("alike two s", "malformed"), ("alike apart apart", "malformed"), ("blocks none", "malformed"), ("galois none", "malformed"),
    ("braid two s", "malformed"), ("braid six six", "malformed"), ("linked two s", "malformed"), ("member s 1,0", "malformed"),
    ("filled torus 1,0,0,0,0,0,0,0,0", "malformed"), ("filled two 1,1", "malformed"), ("trace torus 1,0,2", "malformed"),
    ("independent torus 1", "malformed"), ("exists 9", "malformed"), ("exists 0", "malformed"), ("exists 3 2", "malformed"),
    ("joining 0 0", "malformed"), ("joining 1,0 201", "malformed"), ("swapped 1,1 2", "malformed"), ("swapped 1,0 -1", "malformed"),
    ("below -", "malformed"), ("renumber 1,0 0", "malformed"), ("walk -1 2 2", "malformed"), ("graphs 1 2 3", "malformed"),
    ("product 0 -", "malformed"), ("product 1 2", "malformed"), ("index 13", "malformed"), ("index 1 2", "malformed"),
    ("closure x apart", "refused connected"), ("closure x points", "refused large"), ("beside x long long", "refused large"),
    ("fibre x points points 0 1", "refused large"), ("connected 0 9", "refused large"),
    ("tuples 9", "refused large"), ("tuples 999999999999", "refused large"), ("constant 9 9 9", "refused large"),
    ("character 25 25", "refused large"), ("double 31 2 2", "refused large"), ("double 0 13 13", "refused large"),
    ("rank big", "refused large"), ("linked nine nine", "refused large"), ("walk 31 2 2", "refused large"),
    ("graphs 13 2 2", "refused large"), ("graphs 12 12 12", "refused many"), ("graphs 0 13 13", "refused large"),
    ("index 1" + (" " + ",".join(["1"] * 200)) * 3, "refused large"),
    ("product 1 1 " + ",".join(["1"] * 200) + " " + ",".join(["1"] * 200), "refused large"),
]


class Replies(unittest.TestCase):
    def reply(self, line):
        before = dict(NAMES)
        reply = reply_to(NAMES, line)
        self.assertIs(is_right(NAMES, (line, reply)), True)
        defined_by(NAMES, line)
        # The definitions stay as they are.
        self.assertEqual(NAMES, before)
        self.assertIsInstance(reply, Reply)
        self.assertEqual(reply, reply_to(NAMES, line))
        return reply

    def test_papers(self):
        self.assertEqual(len({line.split()[0] for line, _, _, _, _ in PAPER_LINES}), 20)
        for line, maker, judge, args, text in PAPER_LINES:
            reply = self.reply(line)
            self.assertEqual((reply.kind, reply.text), (line.split()[0], text), line)
            self.assertEqual(reply.data, maker(*args))
            self.assertIs(judge(*args, reply.data), True)
            self.assertIsNone(defined_by(NAMES, line))

    def test_numbers(self):
        for line, number in NUMBER_LINES:
            self.assertEqual(self.reply(line), Reply("number", str(number)), line)
            self.assertIsNone(defined_by(NAMES, line))
        for r, mu, nu in ((2, (1, 1, 1), (3,)), (2, (2,), (2,)), (3, (2,), (2,)), (30, (3, 1), (2, 2)), (1, (2, 1), (1, 1, 1))):
            line = f"double {r} {','.join(map(str, mu))} {','.join(map(str, nu))}"
            self.assertEqual(self.reply(line), Reply("number", ratio_text(cutjoin.double_number(mu, nu, r))))
        self.assertEqual(self.reply("double 2 2 2").text, "1/2")

    def test_systems(self):
        self.assertEqual(len({line.split()[0] for line, _, _, _ in SYSTEM_LINES}), 10)
        for line, name, T, text in SYSTEM_LINES:
            told = " ".join([str(T[0])] + [",".join(map(str, p)) or "-" for p in T[1]])
            self.assertIn(text, (None, told))
            self.assertEqual(self.reply(line), Reply("system", told, ()), line)
            self.assertEqual(defined_by(NAMES, line), (name, T), line)
        for name, T in NAMES.items():
            told = " ".join([str(T[0])] + [",".join(map(str, p)) or "-" for p in T[1]])
            self.assertEqual(self.reply("show " + name), Reply("system", told))
            self.assertIsNone(defined_by(NAMES, "show " + name))

    def test_data(self):
        for name, T in NAMES.items():
            told = " ".join(",".join(map(str, mu)) or "-" for mu in systems.datum_of(T))
            self.assertEqual(self.reply("datum " + name), Reply("datum", told))
        self.assertEqual(self.reply("datum s"), Reply("datum", "2,1 2,1 3"))
        self.assertEqual(self.reply("datum none"), Reply("datum", ""))

    def test_empty(self):
        for line in ("", "   ", "# show who", "#"):
            self.assertEqual(self.reply(line), Reply("done", "", ()))
            self.assertIsNone(defined_by(NAMES, line))

    def test_errors(self):
        for line, text in WRONG_LINES:
            self.assertEqual(self.reply(line), Reply("error", text, ()), line)
            self.assertIsNone(defined_by(NAMES, line))
        for value in VALUES:
            self.assertEqual(self.reply(value), Reply("done") if value == "" else Reply("error", "text"))
            self.assertIsNone(defined_by(NAMES, value))
        # What is defined need not be there; what is used must be, even under the name that is defined.
        self.assertEqual(reply_to({}, "close a a"), Reply("error", "refused name"))
        self.assertEqual(reply_to({"a": TWO}, "close a a"), Reply("system", "2 1,0 1,0"))
        self.assertEqual(reply_to({}, "system a = 1"), Reply("system", "1"))

    def test_errors_in_order(self):
        self.assertEqual(self.reply("part x who x").text, "text")
        self.assertEqual(self.reply("part x who 99").text, "refused name")
        self.assertEqual(self.reply("part x s 99").text, "malformed")
        self.assertEqual(self.reply("beside x who two").text, "refused name")
        self.assertEqual(self.reply("linked nine s").text, "malformed")
        self.assertEqual(self.reply("tuples 9 8").text, "malformed")

    def test_raises_nothing(self):
        source = random.Random(51)
        words = [line.split() for line, *_ in PAPER_LINES + NUMBER_LINES + SYSTEM_LINES]
        tokens = [token for row in words for token in row] + ["who", "x", "-1", "9", "13", "999999999999", "-", "1,2,0"]
        for _ in range(1500):
            row = list(source.choice(words))
            for _ in range(source.randint(1, 3)):
                row[source.randrange(len(row))] = source.choice(tokens)
            reply = self.reply(" ".join(row))
            self.assertTrue(all(isinstance(part, str) for part in (reply.kind, reply.text)))
            self.assertIsInstance(reply.data, tuple)


class Equality(unittest.TestCase):
    def test_fields(self):
        reply = Reply("kind", "text", (1, 2))
        self.assertEqual((reply.kind, reply.text, reply.data), ("kind", "text", (1, 2)))
        short = Reply("kind")
        self.assertEqual((short.kind, short.text, short.data), ("kind", "", ()))
        self.assertEqual(Reply(data=(1,), kind="a", text="b"), Reply("a", "b", (1,)))

    def test_equal(self):
        rows = [Reply(*row) for row in itertools.product(("a", "b", ""), ("", "a"), ((), (1,), ("a",), ((),)))]
        for (i, one), (j, other) in itertools.product(enumerate(rows), repeat=2):
            self.assertIs(one == other, i == j)
            self.assertIs(one != other, i != j)
        for value in VALUES + [("a", "", ()), "a", Malformed("a")]:
            self.assertIs(Reply("a") == value, False)
            self.assertIs(value == Reply("a"), False)
            self.assertIs(Reply("a", data=value) == Reply("a", data=value), True)
        deep = nested(60, tuple)
        self.assertIs(Reply("a", "", deep) == Reply("a", "", nested(60, tuple)), True)
        self.assertIs(Reply("a", "", (Reply("b"),)) == Reply("a", "", (Reply("b"),)), True)
        self.assertIs(Reply("a", "", [1]) == Reply("a", "", (1,)), False)


class Right(unittest.TestCase):
    def test_right_entries(self):
        for line, *_ in PAPER_LINES + NUMBER_LINES + SYSTEM_LINES + WRONG_LINES + [("",), ("# a",), ("show s",), ("datum s",)]:
            reply = reply_to(NAMES, line)
            self.assertIs(is_right(NAMES, (line, reply)), True, line)
            self.assertIs(is_right(NAMES, (line, Reply(reply.kind, reply.text, reply.data))), True)
            self.assertIs(is_right(NAMES, [line, reply]), False)
            self.assertIs(is_right(NAMES, (line, reply, ())), False)
            self.assertIs(is_right(NAMES, (line, (reply.kind, reply.text, reply.data))), False)

    def test_other_kinds_and_texts(self):
        lines = PAPER_LINES + NUMBER_LINES + SYSTEM_LINES + WRONG_LINES + [("",), ("show s",), ("datum s",)]
        source = random.Random(52)
        for line, *_ in lines:
            reply = reply_to(NAMES, line)
            for kind in ("number", "system", "error", "done", "datum", "alike", "order", "", None, 0, ("alike",), reply.kind):
                self.assertIs(is_right(NAMES, (line, Reply(kind, reply.text, reply.data))), kind == reply.kind)
            for text in ("yes", "no", "0", "1", "none", "malformed", "text", "", reply.text + " ", None, 0, reply.text):
                self.assertIs(is_right(NAMES, (line, Reply(reply.kind, text, reply.data))), text == reply.text)
            data = source.choice([None, 0, [], "", ((),), (0,), True, list(reply.data), ("alike",)])
            self.assertIs(is_right(NAMES, (line, Reply(reply.kind, reply.text, data))), False)

    def test_other_papers(self):
        source = random.Random(53)
        for line, maker, judge, args, text in PAPER_LINES:
            word, paper = line.split()[0], maker(*args)
            others = [spoiled(source, paper) for _ in range(15)] + list(misfits(paper))[:20] + PAPERS
            for other in others:
                is_taken = judge(*args, other)
                entry = (line, Reply(word, text, other))
                if not is_taken:
                    self.assertIs(is_right(NAMES, entry), False, entry)
                elif word == "order":
                    self.assertIs(is_right(NAMES, entry), str(other[1]) == text)
                else:
                    # Each paper that is accepted shows the same answer here, so it has the same text.
                    self.assertIs(is_right(NAMES, entry), True, entry)
                    self.assertIs(is_right(NAMES, (line, Reply(word, text + "s", other))), False)

    def test_papers_of_the_same_answer(self):
        self.assertIs(is_right(NAMES, ("galois s", Reply("galois", "no", ("uneven", 1, (2,))))), True)
        self.assertIs(is_right(NAMES, ("galois s", Reply("galois", "no", ("uneven", 1, (2, 2, 2))))), True)
        self.assertIs(is_right(NAMES, ("galois s", Reply("galois", "yes", ("uneven", 1, (2,))))), False)
        self.assertIs(is_right(NAMES, ("galois s", Reply("galois", "no", ("uneven", 2, (1, 1))))), False)
        self.assertIs(is_right(NAMES, ("swapped 1,2,0 1", Reply("swapped", "no", ("sign", ((0, 1, 2),))))), True)
        self.assertIs(is_right(NAMES, ("walk 0 3,2 4,1", Reply("walk", "no", ("short", 1)))), True)
        self.assertIs(is_right(NAMES, ("order two", Reply("order", "2", ("order", 2, ((("letter", 1),), ((1, ((0, 0),)),)))))), True)

    def test_errors_instead_of_papers(self):
        # The judge would take these papers, but the lines lead to an error.
        word = ",".join(["1"] * 200)
        line = f"product 1 1 {word} {word} 1"
        self.assertEqual(reply_to({}, line), Reply("error", "refused large"))
        paper = ("product", (("letter", 3),))
        self.assertIs(takes_product(1, ((1,) * 200, (1,) * 200, (1,)), (1,), paper), True)
        self.assertIs(is_right({}, (line, Reply("product", "yes", paper))), False)
        self.assertIs(is_right({}, (line, Reply("error", "refused large"))), True)
        line = "linked nine nine"
        link = tuple(tuple((int(x == y), 1) for y in range(9)) for x in range(9))
        self.assertIs(is_right(NAMES, (line, Reply("linked", "yes", ("linked", link)))), False)
        self.assertIs(is_right(NAMES, (line, Reply("error", "refused large"))), True)

    def test_names(self):
        entry = ("galois a", Reply("galois", "yes", ("galois", ((0, 1), (1, 0)))))
        self.assertIs(is_right({"a": TWO}, entry), True)
        self.assertIs(is_right({}, entry), False)
        self.assertIs(is_right({"a": SIX}, entry), False)
        self.assertIs(is_right({}, ("galois a", Reply("error", "refused name"))), True)

    def test_values(self):
        for value in VALUES + PAPERS:
            self.assertIs(is_right(NAMES, value), False)
            self.assertIs(is_right(NAMES, (value,)), False)
            self.assertIs(is_right(NAMES, ("show s", value)), False)
            told = reply_to(NAMES, value)
            self.assertIs(is_right(NAMES, (value, told)), True)
            self.assertIs(is_right(NAMES, (value, Reply("number", "0"))), False)
            fits = takes_galois(S, value)
            self.assertIs(is_right(NAMES, ("galois s", Reply("galois", "no", value))), fits)
            self.assertIs(is_right(NAMES, ("galois s", Reply(value, "no", ("uneven", 1, (2,))))), False)
            self.assertIs(is_right(NAMES, ("galois s", Reply("galois", value, ("uneven", 1, (2,))))), False)


if __name__ == "__main__":
    unittest.main()
