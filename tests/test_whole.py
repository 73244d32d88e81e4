"""Point 1.1: whole numbers and fractions."""

import unittest
from fractions import Fraction
from math import gcd

from branchsheets.errors import Malformed, NoText
from branchsheets.whole import chosen_of, factorial_of, greatest_common, is_integer, is_ratio, least_common
from branchsheets.whole import raised_to, ratio, ratio_below, ratio_less, ratio_over, ratio_product, ratio_sum
from branchsheets.whole import ratio_text, read_integer
from helpers import VALUES, whole


class Integers(unittest.TestCase):
    def test_is_integer(self):
        for value in VALUES:
            self.assertIs(is_integer(value), whole(value))
        self.assertIs(is_integer(True), False)
        self.assertIs(is_integer(False), False)
        self.assertIs(is_integer(0), True)
        self.assertIs(is_integer(-10 ** 3999), True)

    def test_read_integer(self):
        rows = list(range(-120, 121)) + [10 ** e + s for e in range(2, 60) for s in (-1, 0, 1)]
        for n in rows:
            self.assertEqual(read_integer(str(n)), n)
            self.assertEqual(read_integer(str(-n)), -n)

    def test_read_long(self):
        for many in (999, 1000, 1001, 1999, 2000, 2001, 3999, 4000):
            for digits in ("9" * many, "1" + "0" * (many - 1), ("1234567890" * 400)[:many]):
                self.assertEqual(read_integer(digits), int(digits))
                self.assertEqual(read_integer("-" + digits), -int(digits))

    def test_read_somewhat_longer(self):
        self.assertEqual(read_integer("1" + "0" * 5000), 10 ** 5000)

    def test_no_text(self):
        wrong = ["", "-", "-0", "+1", "+0", "00", "01", "-01", "-00", "0" * 4000, " 1", "1 ", "1\n", "\n1", "1 2",
                 "--1", "1-", "1_0", "1.0", "1e3", "0x1", "a", "1a", "\u0661", "1\u0662", "\u00b2", "\uff11",
                 "- 1", "\t1", "1/2", "None", b"1", ["1"], ("1",), 1, 0, -1]
        for value in wrong + [v for v in VALUES if v not in ("0", "1")]:
            if isinstance(value, str) and value in ("0", "1"):
                continue
            with self.assertRaises(NoText, msg=repr(value)) as caught:
                read_integer(value)
            self.assertEqual(caught.exception.at, 0)

    def test_powers(self):
        for a in range(-6, 7):
            product = 1
            for e in range(0, 40):
                self.assertEqual(raised_to(a, e), product)
                product = product * a
        self.assertEqual(raised_to(0, 0), 1)
        self.assertEqual(raised_to(-1, 10 ** 50 + 1), -1)
        self.assertEqual(raised_to(10, 3000), int("1" + "0" * 3000))

    def test_factorials_and_choices(self):
        product = 1
        for n in range(0, 60):
            self.assertEqual(factorial_of(n), product)
            product = product * (n + 1)
        row = [1]
        for n in range(0, 30):
            for k in range(0, 40):
                self.assertEqual(chosen_of(n, k), row[k] if k <= n else 0)
            row = [1] + [row[k] + row[k + 1] for k in range(n)] + [1]
        self.assertEqual(chosen_of(0, 0), 1)
        self.assertEqual(chosen_of(3, 10 ** 40), 0)

    def test_divisors_and_multiples(self):
        for a in range(-24, 25):
            for b in range(-24, 25):
                common = max([n for n in range(1, 25) if a % n == 0 and b % n == 0]) if a or b else 0
                self.assertEqual(greatest_common(a, b), common)
                if a and b:
                    self.assertEqual(least_common(a, b), min(n for n in range(1, 577) if n % a == 0 and n % b == 0))


class Fractions(unittest.TestCase):
    def setUp(self):
        self.rows = [(n, d) for n in range(-9, 10) for d in range(1, 10) if gcd(n, d) == 1]

    def test_ratio(self):
        for n in range(-20, 21):
            for d in range(-20, 21):
                if d:
                    told = Fraction(n, d)
                    self.assertEqual(ratio(n, d), (told.numerator, told.denominator))
                    self.assertIs(is_ratio(ratio(n, d)), True)
        self.assertEqual(ratio(0, -5), (0, 1))
        self.assertEqual(ratio(10 ** 300, -10 ** 299), (-10, 1))

    def test_ratio_malformed(self):
        for value in VALUES:
            if not whole(value):
                with self.assertRaises(Malformed):
                    ratio(value, 3)
                with self.assertRaises(Malformed):
                    ratio(3, value)
            with self.assertRaises(Malformed):
                ratio(value, 0)

    def test_is_ratio(self):
        for value in VALUES + [(n, d) for n in range(-9, 10) for d in range(-9, 10)]:
            fits = (isinstance(value, tuple) and len(value) == 2 and whole(value[0]) and whole(value[1])
                    and value[1] > 0 and gcd(value[0], value[1]) == 1)
            self.assertIs(is_ratio(value), fits, repr(value))
        for value in ((1, True), (True, 2), [1, 2], (1, 2, 1), (0, 2), (0, 0), (2, 4), (1, -2), (1,), "12", (1, "2")):
            self.assertIs(is_ratio(value), False)
        self.assertIs(is_ratio((0, 1)), True)

    def test_operations(self):
        for a in self.rows:
            for b in self.rows:
                one, other = Fraction(*a), Fraction(*b)
                for function, told in ((ratio_sum, one + other), (ratio_less, one - other),
                                       (ratio_product, one * other)):
                    self.assertEqual(function(a, b), (told.numerator, told.denominator))
                self.assertIs(ratio_below(a, b), one < other)
                if b[0]:
                    told = one / other
                    self.assertEqual(ratio_over(a, b), (told.numerator, told.denominator))

    def test_over_zero(self):
        for a in self.rows:
            with self.assertRaises(Malformed):
                ratio_over(a, (0, 1))

    def test_text(self):
        for n, d in self.rows:
            self.assertEqual(ratio_text((n, d)), str(n) if d == 1 else str(n) + "/" + str(d))
        self.assertEqual(ratio_text((0, 1)), "0")
        for many in (999, 1000, 1001, 2000, 4000):
            n = 10 ** (many - 1)
            self.assertEqual(ratio_text((n, 1)), str(n))
            self.assertEqual(ratio_text((-n - 7, 3 ** 7)), str(-n - 7) + "/" + str(3 ** 7))
            self.assertEqual(ratio_text((-1, n)), "-1/" + str(n))


if __name__ == "__main__":
    unittest.main()
