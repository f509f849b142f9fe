"""[3], [7]: webs as texts."""

import itertools
import random
import re
import unittest

from tanglehouse.errors import NoText, Odd
from tanglehouse.texts import read, shown
from tanglehouse.webs import check_web
from tests.helper import NOTHING, SINGLE, TREFOIL
from tests.helper import chance_web, refused, some_webs

WRITTEN = [
    (NOTHING, ""),
    (((), (), 1), "o 1"),
    (((), (), 20), "o 20"),
    (((), (0, 0), 0), "e 0 0"),
    (((), (5, 40, 40, 5), 3), "e 5 40 40 5 o 3"),
    ((((0, 0, 1, 1),), (), 0), "x 0 0 1 1"),
    ((((0, 0, 1, 1),), (), 999999999), "x 0 0 1 1 o 999999999"),
    (SINGLE, "x 0 1 2 3 e 0 1 2 3"),
    (TREFOIL, "x 1 5 2 4 x 3 1 4 6 x 5 3 6 2"),
    ((((999999999, 10, 999999999, 7),), (10, 7), 2), "x 999999999 10 999999999 7 e 10 7 o 2"),
]


def kind(word):
    """A letter for what a word is: one of the three, a nought, another number, or none of these."""
    if word in ("x", "e", "o"):
        return word
    return "0" if word == "0" else "n" if re.fullmatch("[1-9][0-9]{0,8}", word) else "?"


def first_wrong(words):
    """The number that NoText must bear, or None, by asking which beginnings could be gone on with."""
    kinds = "".join(kind(word) for word in words)

    def whole(row):
        return re.fullmatch("(x[0n]{4})*(e[0n]+)?(on)?", row)

    for at in range(len(kinds)):
        if not any(whole(kinds[:at + 1] + "n" * more) for more in range(5)):
            return at
    return None if whole(kinds) else len(kinds)


class Shown(unittest.TestCase):
    def test_written(self):
        for web, text in WRITTEN:
            self.assertEqual(shown(web), text)

    def test_signs(self):
        for web in some_webs(random.Random(11), 50):
            self.assertIsNone(re.search("[^xeo0-9 ]", shown(web)))


class Read(unittest.TestCase):
    def test_written(self):
        for web, text in WRITTEN:
            self.assertEqual(read(text), web)

    def test_kinds(self):
        web = read("x 0 1 2 3 e 0 1 2 3 o 1")
        self.assertEqual([type(web), type(web[0]), type(web[0][0]), type(web[1])], [tuple] * 4)
        self.assertIsNone(check_web(web))

    def test_what_is_shown_is_read(self):
        chance = random.Random(12)
        for web in some_webs(chance, 200):
            self.assertEqual(read(shown(web)), web)
        for web in (chance_web(chance, 40, 8, 20), chance_web(chance, 300, 50, 10 ** 9 - 1)):
            self.assertEqual(read(shown(web)), web)

    def test_words_that_can_not_stand_there(self):
        cases = [
            ("y", 0), ("X 0 0 1 1", 0), ("0", 0), ("xx", 0), ("x0 0 1 1", 0), ("%", 0), ("-", 0),
            ("x a 0 1 1", 1), ("x 0 0 1 x", 4), ("x 0 0 1 1 1", 5), ("x 0 0 1 1 y", 5), ("x 0 0 e 1 1", 3),
            ("x 00 0 1 1", 1), ("x 0 0 01 01", 3), ("e 007 007", 1),
            ("x +0 +0 1 1", 1), ("x 0 0 -1 -1", 3), ("e -0 -0", 1), ("o +1", 1), ("o -1", 1),
            ("x 1234567890 0 0 1", 1), ("e 1000000000 1000000000", 1), ("o 1000000000", 1), ("o 0000000001", 1),
            (" ", 0), ("  ", 0), (" x 0 0 1 1", 0), ("x 0 0 1 1 ", 5), ("x  0 0 1 1", 1), ("x 0 0  1 1", 3),
            ("x 0 0 1 1  e 2 2", 5), ("e 0 0 ", 3), ("e  0 0", 1), ("e 0  0", 2), ("o 1 ", 2), ("o  1", 1), ("o ", 1),
            ("e 0 0 e 1 1", 3), ("e 0 0 x 1 1 2 2", 3), ("o 1 o 1", 2), ("o 1 2", 2), ("o 1 e 0 0", 2),
            ("o 1 x 0 0 1 1", 2), ("e o 1", 1), ("e e 0 0", 1), ("e x", 1), ("o o", 1), ("o e", 1),
            ("o 0", 1), ("x 0 0 1 1 o 0", 6), ("o 00", 1), ("o 01", 1),
            ("e 0 1.0", 2), ("e 0 1_0", 2), ("e 0 1e3", 2), ("e 0x1", 1), ("e 0,0", 1), ("x 0 0 1 1;", 4),
            ("\n", 0), ("e 0\n0", 1), ("e 0 0\n", 2), ("e\t0 0", 0), ("x 0 0 1 \u0661", 4), ("e \u00b2 \u00b2", 1),
        ]
        for text, at in cases:
            self.assertEqual(refused(read, text), (NoText, {"at": at}), repr(text))

    def test_texts_that_end_too_early(self):
        for text in ("x", "x 0", "x 0 0", "x 0 0 1", "e", "o", "x 0 0 1 1 x", "x 0 0 1 1 x 2 2 3", "x 0 0 1 1 e",
                     "x 0 0 1 1 o", "e 0 0 o", "x 0 1 2 3 e 0 1 2 3 o"):
            self.assertEqual(refused(read, text), (NoText, {"at": len(text.split())}), text)

    def test_rows_of_words_of_all_sorts(self):
        for many in range(6):
            for words in itertools.product(("x", "e", "o", "0", "7", "", "07"), repeat=many):
                if words == ("",):
                    continue
                self.check(words)

    def test_one_word_exchanged_in_longer_texts(self):
        chance = random.Random(13)
        for web in some_webs(chance, 60):
            words = shown(web).split()
            for at in range(len(words)):
                other = chance.choice(("x", "e", "o", "0", "12", "", "00", "y"))
                self.check(words[:at] + [other] + words[at + 1:])
                self.check(words[:at] + [other] + words[at:])
                if words[1:]:
                    self.check(words[:at] + words[at + 1:])

    def check(self, words):
        wrong = first_wrong(words)
        told = refused(read, " ".join(words))
        if wrong is None:
            self.assertNotEqual(told and told[0], NoText, words)
        else:
            self.assertEqual(told, (NoText, {"at": wrong}), words)

    def test_what_is_no_text(self):
        for thing in (None, True, False, 0, 5, 10 ** 5000, [], ["x"], (), ((), (), 0), {}, {"x": 0}, ["x 0 0 1 1"]):
            self.assertEqual(refused(read, thing), (NoText, {"at": 0}))

    def test_then_odd(self):
        cases = [
            ("e 0", 0), ("e 3 3 3", 3), ("e 3 3 3 3", 3), ("x 0 0 0 0", 0), ("x 0 1 2 3", 0), ("x 0 1 2 3 e 0 1 2", 3),
            ("x 5 5 6 7 e 7 9", 6), ("e 4 2 4 o 3", 2), ("x 0 0 1 1 x 0 0 2 2", 0), ("e 10 9", 9),
        ]
        for text, arc in cases:
            self.assertEqual(refused(read, text), (Odd, {"arc": arc}), text)

    def test_no_text_goes_ahead_of_odd(self):
        for text, at in (("e 0 o 0", 3), ("x 0 1 2 3 y", 5), ("x 0 0 0", 4), ("e 1 2 3 ", 4)):
            self.assertEqual(refused(read, text), (NoText, {"at": at}), text)


if __name__ == "__main__":
    unittest.main()
