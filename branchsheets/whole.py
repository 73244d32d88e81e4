"""Whole numbers and fractions, with their written forms."""

from math import comb, factorial, gcd, lcm

from branchsheets.demands import demand
from branchsheets.errors import NoText

# Python itself reads and writes at most 4300 digits at once.
DIGITS_AT_ONCE = 1000


def is_integer(value):
    return isinstance(value, int) and not isinstance(value, bool)


def _is_written(text):
    if not isinstance(text, str):
        return False
    if text == "0":
        return True
    digits = text[1:] if text[:1] == "-" else text
    # isdigit would also take digits of other scripts.
    return digits != "" and digits[0] != "0" and all(["0" <= sign <= "9" for sign in digits])


def _read_digits(digits):
    n = 0
    for at in range(0, len(digits), DIGITS_AT_ONCE):
        part = digits[at:at + DIGITS_AT_ONCE]
        n = n * raised_to(10, len(part)) + int(part)
    return n


def read_integer(text):
    """The integer with this written form; NoText(0) for every other value."""
    if not _is_written(text):
        raise NoText(0)
    if text[0] == "-":
        return -_read_digits(text[1:])
    return _read_digits(text)


def integer_text(n):
    """The written form of an integer."""
    if n < 0:
        return "-" + integer_text(-n)
    limit = raised_to(10, DIGITS_AT_ONCE)
    parts = []
    while n >= limit:
        n, low = divmod(n, limit)
        parts.append(str(low).zfill(DIGITS_AT_ONCE))
    parts.append(str(n))
    return "".join(parts[::-1])


def raised_to(a, e):
    """The power of an integer, by squaring."""
    power = 1
    while e > 0:
        if e & 1:
            power = power * a
        e = e >> 1
        if e > 0:
            a = a * a
    return power


def factorial_of(n):
    return factorial(n)


def chosen_of(n, k):
    """The number of the sets of k of n things."""
    return comb(n, k)


def greatest_common(a, b):
    return gcd(a, b)


def least_common(a, b):
    return lcm(a, b)


def ratio(n, d):
    """The fraction n / d, in lowest terms."""
    demand(is_integer(n) and is_integer(d) and d != 0, "fraction")
    common = gcd(n, d)
    if d < 0:
        common = -common
    return (n // common, d // common)


def is_ratio(value):
    if not (isinstance(value, tuple) and len(value) == 2):
        return False
    n, d = value
    return is_integer(n) and is_integer(d) and d > 0 and gcd(n, d) == 1


def ratio_sum(a, b):
    return ratio(a[0] * b[1] + b[0] * a[1], a[1] * b[1])


def ratio_less(a, b):
    """The difference a - b."""
    return ratio(a[0] * b[1] - b[0] * a[1], a[1] * b[1])


def ratio_product(a, b):
    return ratio(a[0] * b[0], a[1] * b[1])


def ratio_over(a, b):
    """The quotient a / b; Malformed if b is zero."""
    return ratio(a[0] * b[1], a[1] * b[0])


def ratio_text(a):
    """The written form of a fraction."""
    if a[1] == 1:
        return integer_text(a[0])
    return integer_text(a[0]) + "/" + integer_text(a[1])


def ratio_below(a, b):
    return a[0] * b[1] < b[0] * a[1]
