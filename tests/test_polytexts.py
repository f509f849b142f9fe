"""[2], [12]: polynomials as texts."""

import itertools
import random
import re
import unittest

from tanglehouse.errors import NoText
from tanglehouse.polynomials import is_polynomial
from tanglehouse.polytexts import read_polynomial, shown_polynomial
from tests.helper import OTHER_THINGS, refusal, refused

HUGE = 10 ** 60 - 1
NINES = "9" * 60
WRITTEN = (
    ((), "0"), (((0, 1),), "1"), (((0, -1),), "-1"), (((1, 1),), "x"), (((1, -1),), "-x"), (((-1, 1),), "x^-1"),
    (((-1, -1),), "-x^-1"), (((2, 1),), "x^2"), (((2, -1),), "-x^2"), (((0, 2),), "2"), (((0, -10),), "-10"),
    (((1, 2),), "2x"), (((1, -10),), "-10x"), (((1, 11),), "11x"), (((10, 1),), "x^10"), (((-10, 11),), "11x^-10"),
    (((0, 1), (1, 1)), "1 + x"), (((0, -1), (1, -1)), "-1 - x"), (((-2, -1), (2, -1)), "-x^-2 - x^2"),
    (((-1, 1), (0, 1), (1, 1)), "x^-1 + 1 + x"), (((-1, -1), (0, -1), (1, -1)), "-x^-1 - 1 - x"),
    (((-3, 2), (0, -5), (1, 12), (7, -1)), "2x^-3 - 5 + 12x - x^7"), (((-12, -3), (-11, 1)), "-3x^-12 + x^-11"),
    (((-HUGE, HUGE), (HUGE, -HUGE)), NINES + "x^-" + NINES + " - " + NINES + "x^" + NINES),
    (((0, -HUGE),), "-" + NINES), (((1, HUGE),), NINES + "x"), (((HUGE, 1),), "x^" + NINES),
)
# Texts that write no polynomial.
UNREAD = (
    "", " ", "  ", "-", "+", "--1", "+1", "+x", "+ 1", "- 1", "- x", "1x", "-1x", "1x^2", "x^1", "-x^1", "2x^1", "x^0",
    "x^-0", "2x^0", "0x", "-0", "00", "0x^2", "0 + x", "x^-1 + 0", "1 + 0x", "01", "-01", "02x", "x^02", "x^-02", "2x^01",
    "1 +  x", "1  + x", " 1", "1 ", " x", "x ", "1+x", "1 +x", "1+ x", "1 x", "1 + ", "1 +", "1 + + x", "1 - - x",
    "1 + -x", "1 - +x", "1 + x -", "x + 1", "x^2 + x", "x^-1 + x^-2", "1 + 1", "x + x", "x - x", "2 - 1", "x^2 + x^2",
    "x^", "x^-", "x^+2", "x^--2", "x2", "xx", "x^2x", "x^x", "2*x", "2 x", "x^ 2", "x ^2", "X", "y", "x^2^3", "^2", "2^3",
    "1.0", "1/2", "x^1/2", "1e5", "1_0", "x\n", "\n1", "1\t+ x", "1 + x\n", "\u0661", "\u00b2", "x^\u0662", "\uff11", "x\u00b2",
    "0 ", "-0x", "+0", "0x0", "0x1", "none", "()", "1 = x", "1, x", "1 + x + x^2 + x", "x^10 + x^9",
    NINES + "9", "-" + NINES + "9", NINES + "9x", "x^" + NINES + "9", "x^-" + NINES + "9", "1 + " + NINES + "9x",
    "1" + "0" * 60, "9" * 5000, "x^" + "9" * 5000, "0" * 61, "0" + NINES,
)
TERM = re.compile(r"((?:[2-9]|[1-9][0-9]{1,59})?)x(?:\^(?!1$)(-?[1-9][0-9]{0,59}))?$|([1-9][0-9]{0,59})$")


def read_again(text):
    """The polynomial that a text writes, or None, by a pattern for each term."""
    if text == "0":
        return ()
    first, *rest = re.split(r" ([+-]) ", text)
    signs = [-1 if first.startswith("-") else 1] + [-1 if sign == "-" else 1 for sign in rest[0::2]]
    terms = []
    for sign, word in zip(signs, [first.removeprefix("-")] + rest[1::2]):
        match = TERM.match(word)
        if match is None or word.endswith("\n"):
            return None
        if match[3]:
            terms.append((0, sign * int(match[3])))
        else:
            terms.append((int(match[2] or 1), sign * int(match[1] or 1)))
    powers = [power for power, _ in terms]
    return tuple(terms) if powers == sorted(set(powers)) else None


def chance_polynomials(chance, many):
    for _ in range(many):
        figures = chance.choice((1, 1, 2, 60))
        powers = {chance.randint(-10 ** figures + 1, 10 ** figures - 1) for _ in range(chance.randint(0, 6))}
        numbers = (-1, 1, 2, 10, -chance.randint(1, HUGE), chance.randint(1, HUGE))
        yield tuple((power, chance.choice(numbers)) for power in sorted(powers))


class Written(unittest.TestCase):
    def test_shown(self):
        for one, text in WRITTEN:
            self.assertEqual(shown_polynomial(one), text)

    def test_read(self):
        for one, text in WRITTEN:
            self.assertEqual(read_polynomial(text), one)
            self.assertIs(is_polynomial(read_polynomial(text)), True)

    def test_what_is_shown_is_read(self):
        for one in chance_polynomials(random.Random(41), 500):
            text = shown_polynomial(one)
            self.assertIsNone(re.search("[^-+x^0-9 ]", text))
            self.assertEqual(read_again(text), one)
            self.assertEqual(read_polynomial(text), one)

    def test_of_many_terms(self):
        chance = random.Random(42)
        for start, number in ((-200, 1), (0, -1), (-HUGE, -HUGE), (HUGE - 399, HUGE)):
            one = tuple((power, chance.choice((number, -number))) for power in range(start, start + 400))
            text = shown_polynomial(one)
            self.assertEqual(len(text.split(" ")), 799)
            self.assertEqual(read_again(text), one)
            self.assertEqual(read_polynomial(text), one)


class Refused(unittest.TestCase):
    def check(self, text):
        wanted = read_again(text)
        if wanted is None:
            self.assertEqual(refused(read_polynomial, text), (NoText, {"at": 0}), text)
        else:
            self.assertEqual(read_polynomial(text), wanted, text)

    def test_texts_that_write_none(self):
        for text in UNREAD:
            self.assertIsNone(read_again(text), text)
            self.assertEqual(refused(read_polynomial, text), (NoText, {"at": 0}), text)

    def test_what_is_no_text(self):
        for number, thing in enumerate(OTHER_THINGS + ((), ("x",), ((0, 1),), ["0"], {"0": "0"}, 10 ** 5000)):
            self.assertEqual(refused(read_polynomial, thing), (NoText, {"at": 0}), number)
        self.assertIsInstance(refusal(read_polynomial, None), ValueError)

    def test_all_short_texts(self):
        for many in range(6):
            for signs in itertools.product("012x^- +", repeat=many):
                self.check("".join(signs))

    def test_all_short_rows_of_words(self):
        for many in range(1, 6):
            for words in itertools.product(("1", "-x", "x", "+", "-", "2x^-1", ""), repeat=many):
                self.check(" ".join(words))

    def test_one_sign_exchanged(self):
        chance = random.Random(43)
        for one in chance_polynomials(chance, 300):
            text = shown_polynomial(one)
            for at in [chance.randrange(len(text) + 1) for _ in range(12)]:
                sign = chance.choice("0123x^-+ ")
                self.check(text[:at] + sign + text[at:])
                self.check(text[:at] + sign + text[at + 1:])
                self.check(text[:at] + text[at + 1:])


if __name__ == "__main__":
    unittest.main()
