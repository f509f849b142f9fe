"""[2], [3], [23], [24], [25]: pairs of parts, polynomials at x^4 = -1, and lists of twists."""

import math
import random
import unittest

from tanglehouse.faces import check_flat
from tanglehouse.fractions import pair, taken, twisted, twisted_sums, value
from tanglehouse.parts import Above, Beside, Level, Mirrored, Single, Turned, Upright, read_part
from tanglehouse.polynomials import is_polynomial, lifted, plus, times
from tanglehouse.stores import sums
from tanglehouse.texts import shown
from tanglehouse.webs import check_web, mirrored, named_anew
from tests.helper import LEVEL, SINGLE
from tests.helper import as_told, chance_lists, chance_trees, glued_again, part_of, quarter_again, refused
from tests.helper import small_lists, sums_again, trees, twisted_row, value_again

LEVEL_ENDS = ((0, 3), (1, 2))
UPRIGHT_ENDS = ((0, 1), (2, 3))
ONE = ((0, 1),)
PAIRS = (
    ("level", (0, 1, 0)), ("upright", (1, 0, -2)), ("single", (1, 1, -1)),
    ("(single beside single)", (2, 1, -2)), ("(single above single)", (1, 2, 0)), ("(turned single)", (-1, 1, 1)),
    ("(mirrored single)", (-1, 1, 1)), ("(turned level)", (-1, 0, 2)), ("(turned upright)", (0, 1, 0)),
    ("(mirrored upright)", (-1, 0, 2)), ("(mirrored level)", (0, 1, 0)), ("(upright beside upright)", (0, 0, -4)),
    ("(level above level)", (0, 0, 2)), ("(level beside upright)", (1, 0, -2)),
    ("(upright above upright)", (1, 0, -2)),
    ("((single beside single) beside single)", (3, 1, -3)), ("((single beside single) above single)", (2, 3, -1)),
    ("((single above single) beside (single beside (single beside single)))", (7, 2, -3)),
    ("(turned ((single beside single) beside single))", (-1, 3, -1)), ("(turned (turned single))", (-1, -1, 3)),
    ("(mirrored (single beside (single above single)))", (-3, 2, 1)),
)
VALUES = (
    ([5], (5, 1)), ([0], (0, 1)), ([-5], (-5, 1)), ([1], (1, 1)), ([-40], (-40, 1)),
    # Behind 0 by 1 comes 1 by 0, whatever the number, and behind that the number by itself.
    ([0, 5], (1, 0)), ([0, 0], (1, 0)), ([0, -5], (1, 0)), ([0, 5, 7], (7, 1)), ([0, 0, 0], (0, 1)),
    ([0, 0, -3], (-3, 1)),
    ([0, 3, 0], (0, 1)), ([0, 0, 0, 0], (1, 0)), ([1, 1], (0, 1)), ([1, 1, 4], (1, 0)), ([1, 1, 4, 9], (9, 1)),
    ([-1, -1, 8], (1, 0)), ([2, 1, 2, 3, 0], (0, 1)),
    ([2, 3], (5, 2)), ([2, 0], (-1, 2)), ([-2, 0], (1, 2)), ([-2, 3], (7, 2)), ([-2, -3], (-5, 2)),
    ([2, -3], (-7, 2)),
    ([3, -2, 0], (3, 7)), ([1, 0], (-1, 1)), ([-1, 0], (1, 1)), ([2, 3, 4], (18, 5)), ([2] * 40, (41, 40)),
    ([0] * 39, (0, 1)),
    ([0] * 40, (1, 0)), ([4, 4], (15, 4)), ([-4, 2, -6], (-58, 9)),
)
WEBS = (
    ([0], "e 0 1 1 0"), ([0, 0], "e 0 0 1 1"), ([0, 0, 0], "e 0 1 1 0"), ([0, 0, 0, 0], "e 0 0 1 1"),
    ([1], "x 0 1 2 3 e 0 1 2 3"), ([-1], "x 0 1 2 3 e 3 0 1 2"), ([2], "x 0 1 2 3 x 3 2 4 5 e 0 1 4 5"),
    ([-2], "x 0 1 2 3 x 1 4 5 2 e 3 0 4 5"), ([1, 0], "x 0 1 2 3 e 3 0 1 2"), ([-1, 0], "x 0 1 2 3 e 2 3 0 1"),
    ([1, 1], "x 0 1 2 3 x 2 1 4 5 e 3 0 4 5"), ([0, 1], "x 0 0 1 2 e 3 3 1 2"), ([0, 0, 1], "x 0 1 2 3 e 0 1 2 3"),
    ([1, -1], "x 0 1 2 3 x 1 4 5 2 e 3 0 4 5"), ([0, -1], "x 0 1 2 0 e 3 3 1 2"),
)


def pair_again(tree):
    """The pair of a part that is told as a tree, by its fractions' numbers one by one."""
    made = [pair_again(one) for one in tree[1:]]
    if not made:
        return {"Level": (0, 1, 0), "Upright": (1, 0, -2), "Single": (1, 1, -1)}[tree[0]]
    (p, q, m), (r, s, n) = made[0], made[-1]
    return {"Beside": (p * s + q * r, q * s, m + n), "Above": (p * r, q * r + p * s, m + n + 2),
            "Turned": (-q, p, m + 2), "Mirrored": (-p, q, -m)}[tree[0]]


def of_term(number, power):
    """What number times x to a power leaves at x^4 = -1, by going down from power to power, at most seven times."""
    power %= 8
    while power > 3:
        number, power = -number, power - 4
    return [number if k == power else 0 for k in range(4)]


def twisted_again(twists):
    """The tangle of a list, by walking."""
    back = named_anew(mirrored(SINGLE))
    web = LEVEL
    for at, number in enumerate(twists):
        web = quarter_again(web) if at else web
        for _ in range(abs(number)):
            web = glued_again(web, SINGLE if number > 0 else back, 2)
    return web


def part_by_twists(twists):
    """The tangle of a list as a part, its half twists put beside it one by one."""
    part = Level()
    for at, number in enumerate(twists):
        part = Turned(part) if at else part
        for _ in range(abs(number)):
            part = Beside(part, Single() if number > 0 else Mirrored(Single()))
    return part


class Pair(unittest.TestCase):
    def test_known(self):
        for text, wanted in PAIRS:
            self.assertEqual(pair(read_part(text)), wanted, text)

    def test_small_ones_all(self):
        for tree in trees(2):
            self.assertEqual(pair(part_of(tree)), pair_again(tree), tree)

    def test_within_one_another(self):
        for tree in chance_trees(random.Random(111), 200, 40):
            self.assertEqual(pair(part_of(tree)), pair_again(tree), tree)

    def test_kinds(self):
        one, other = Single(), Upright()
        for part in (one, other, Level(), Beside(one, other), Above(one, other), Turned(one), Mirrored(other)):
            told = pair(part)
            self.assertEqual([type(told)] + [type(number) for number in told], [tuple, int, int, int])

    def test_it_is_the_sums_at_x4_of_less_1(self):
        for tree in trees(2) + chance_trees(random.Random(112), 80, 24):
            part = part_of(tree)
            p, q, m = pair(part)
            told = part.sums()
            self.assertEqual(taken(told.get(LEVEL_ENDS, ())), of_term(q, m), tree)
            self.assertEqual(taken(told.get(UPRIGHT_ENDS, ())), of_term(p, m + 2), tree)
            self.assertLessEqual(set(told), {LEVEL_ENDS, UPRIGHT_ENDS})

    def test_asked_again_the_same_is_told(self):
        part = read_part("(turned (single above (mirrored (single beside upright))))")
        self.assertEqual([pair(part), pair(part)], [(1, -1, 6)] * 2)
        self.assertEqual(part.written(), "(turned (single above (mirrored (single beside upright))))")


class Taken(unittest.TestCase):
    def test_known(self):
        self.assertEqual(taken(()), [0, 0, 0, 0])
        self.assertEqual(taken(ONE), [1, 0, 0, 0])
        self.assertEqual(taken(((0, 2), (1, 3), (2, 5), (3, 7))), [2, 3, 5, 7])
        self.assertEqual(taken(((4, 2), (5, 3), (6, 5), (7, 7))), [-2, -3, -5, -7])
        self.assertEqual(taken(((8, 2), (9, 3), (10, 5), (11, 7))), [2, 3, 5, 7])
        self.assertEqual(taken(((-4, 2), (-3, 3), (-2, 5), (-1, 7))), [-2, -3, -5, -7])
        self.assertEqual(taken(((-8, 2), (-7, 3), (-6, 5), (-5, 7))), [2, 3, 5, 7])
        self.assertEqual(taken(((0, 1), (4, 1))), [0, 0, 0, 0])
        self.assertEqual(taken(((-2, -1), (2, -1))), [0, 0, 0, 0])
        self.assertEqual(taken(((-1, -4), (3, 5), (7, 6))), [0, 0, 0, 4 + 5 - 6])

    def test_far_powers_and_long_numbers(self):
        far = 10 ** 60 - 8
        self.assertEqual(far % 8, 0)
        self.assertEqual(taken(((far, 10 ** 60 - 1), (far + 7, -3))), [10 ** 60 - 1, 0, 0, 3])
        self.assertEqual(taken(((-far - 7, 10 ** 60 - 1), (-far, 5))), [5, 10 ** 60 - 1, 0, 0])
        self.assertEqual(taken(((-far - 3, -1),)), [0, 1, 0, 0])

    def test_by_chance(self):
        chance = random.Random(113)
        for size in (1, 2, 5, 40, 400):
            for reach in (9, 1000, 10 ** 60 - 1):
                powers = sorted({chance.randint(-reach, reach) for _ in range(size)})
                numbers = [chance.choice((-1, 1)) * chance.randint(1, 10 ** chance.randint(1, 60) - 1) for _ in powers]
                one = tuple(zip(powers, numbers))
                wanted = [sum(column) for column in zip(*[of_term(number, power) for power, number in one])]
                told = taken(one)
                self.assertEqual(told, wanted)
                self.assertEqual([type(told)] + [type(number) for number in told], [list] + [int] * 4)

    def test_sums_and_products(self):
        chance = random.Random(114)
        for _ in range(50):
            rows = [sorted(chance.sample(range(-30, 30), 6)) for _ in range(2)]
            one, other = [tuple((power, chance.randint(1, 9)) for power in row) for row in rows]
            whole = lambda numbers: tuple((k, number) for k, number in enumerate(numbers) if number)
            self.assertEqual(taken(plus(one, other)), [a + b for a, b in zip(taken(one), taken(other))])
            self.assertEqual(taken(times(one, other)), taken(times(whole(taken(one)), whole(taken(other)))))
            self.assertEqual(taken(lifted(one, 8)), taken(one))
            self.assertEqual(taken(lifted(one, -4)), [-number for number in taken(one)])

    def test_what_is_told_is_the_askers_own(self):
        told = taken(((5, 1),))
        told.clear()
        self.assertEqual(taken(((5, 1),)), [0, -1, 0, 0])


class Value(unittest.TestCase):
    def test_known(self):
        for twists, wanted in VALUES:
            self.assertEqual(value(twists), wanted, twists)

    def test_small_ones_all(self):
        for twists in small_lists(3, 4):
            self.assertEqual(value(twists), value_again(twists), twists)

    def test_to_the_bounds(self):
        for twists in chance_lists(random.Random(115), 150):
            self.assertEqual(value(twists), value_again(twists), twists)

    def test_long_lists_with_great_numbers(self):
        # Such as the program tells of its own: of a thousand numbers, or with one far beyond forty.
        self.assertEqual(value([2] * 999), (1000, 999))
        self.assertEqual(value([999999999]), (999999999, 1))
        self.assertEqual(value([2, 999999999]), value_again([2, 999999999]))

    def test_lowest_terms(self):
        for twists in list(small_lists(2, 5)) + chance_lists(random.Random(116), 40):
            told = value(twists)
            self.assertEqual([type(told), len(told), type(told[0]), type(told[1])], [tuple, 2, int, int])
            self.assertTrue(told == (1, 0) or (told[1] > 0 and math.gcd(told[0], told[1]) == 1), told)

    def test_it_is_the_fraction_of_the_pair(self):
        for twists in small_lists(2, 3):
            top, bottom, _ = pair(part_by_twists(twists))
            self.assertEqual(top * value(twists)[1], bottom * value(twists)[0])
            self.assertNotEqual((top, bottom), (0, 0))


class Twisted(unittest.TestCase):
    def test_known(self):
        for twists, wanted in WEBS:
            self.assertEqual(shown(twisted(twists)), wanted, twists)

    def test_half_twists(self):
        for many in range(1, 41):
            self.assertEqual(twisted([many]), named_anew(twisted_row(many)))
            self.assertEqual(twisted([-many]), named_anew(mirrored(twisted([many]))))

    def test_as_by_walking(self):
        for twists in list(small_lists(2, 3)) + chance_lists(random.Random(117), 40):
            self.assertEqual(twisted(twists), twisted_again(twists), twists)

    def test_as_parts(self):
        for twists in small_lists(2, 3):
            self.assertEqual(twisted(twists), part_by_twists(twists).web(), twists)

    def test_flat_named_anew_tangles(self):
        for twists in chance_lists(random.Random(118), 30):
            web = twisted(twists)
            self.assertIsNone(check_web(web))
            self.assertIsNone(check_flat(web))
            self.assertEqual(named_anew(web), web)
            self.assertEqual((len(web[0]), len(web[1]), web[2]), (sum(abs(number) for number in twists), 4, 0))


class TwistedSums(unittest.TestCase):
    def test_known(self):
        self.assertEqual(twisted_sums([0]), (ONE, ()))
        self.assertEqual(twisted_sums([0, 0]), ((), ONE))
        self.assertEqual(twisted_sums([0, 0, 0]), (ONE, ()))
        self.assertEqual(twisted_sums([1]), (((-1, 1),), ((1, 1),)))
        self.assertEqual(twisted_sums([-1]), (((1, 1),), ((-1, 1),)))
        self.assertEqual(twisted_sums([2]), (((-2, 1),), ((0, 1), (4, -1))))
        self.assertEqual(twisted_sums([-2]), (((2, 1),), ((-4, -1), (0, 1))))
        # Curls alone, of which each counts for -x^3 or its inverse.
        self.assertEqual(twisted_sums([0, 1]), ((), ((3, -1),)))
        self.assertEqual(twisted_sums([0, -2]), ((), ((-6, 1),)))
        self.assertEqual(twisted_sums([0, 3, 0]), (((9, -1),), ()))
        self.assertEqual(twisted_sums([1, 0]), (((1, 1),), ((-1, 1),)))

    def test_as_the_sums_of_the_tangle(self):
        many = 0
        for twists in list(small_lists(2, 3)) + list(small_lists(1, 4)) + chance_lists(random.Random(119), 40):
            web = twisted(twists)
            if refused(sums, web) is None:
                told = sums(web)
                self.assertLessEqual(set(told), {LEVEL_ENDS, UPRIGHT_ENDS})
                self.assertEqual(twisted_sums(twists), (told.get(LEVEL_ENDS, ()), told.get(UPRIGHT_ENDS, ())), twists)
                many += len(web[0]) > 20
        self.assertGreater(many, 30)

    def test_as_by_walking(self):
        for twists in ([3], [-3, 1], [1, 2, -1], [0, 2, 1], [2, 0, 2], [-1, -1, -1, -1], [0, 0, 3], [2, -3, 0]):
            told = as_told(sums_again(twisted_again(twists)))
            self.assertEqual(twisted_sums(twists), (told.get(LEVEL_ENDS, ()), told.get(UPRIGHT_ENDS, ())), twists)

    def test_as_parts(self):
        for twists in small_lists(2, 3):
            told = part_by_twists(twists).sums()
            self.assertEqual(twisted_sums(twists), (told.get(LEVEL_ENDS, ()), told.get(UPRIGHT_ENDS, ())), twists)

    def test_kinds(self):
        for twists in chance_lists(random.Random(120), 30):
            told = twisted_sums(twists)
            self.assertEqual([type(told), len(told)], [tuple, 2])
            self.assertTrue(is_polynomial(told[0]) and is_polynomial(told[1]))

    def test_at_x4_of_less_1_they_are_the_value(self):
        for twists in small_lists(2, 4):
            level, upright = [taken(one) for one in twisted_sums(twists)]
            top, bottom = value(twists)
            # One of the four numbers of each is the bottom, and the top, but for a sign.
            self.assertEqual((sum(map(abs, level)), sum(map(abs, upright))), (bottom, abs(top)), twists)


class Given(unittest.TestCase):
    def test_a_list_that_is_handed_in_stays(self):
        for ask in (value, twisted, twisted_sums):
            for twists in ([0], [0, 0], [2, -3, 0, 1], [0, 5, -1], [1, 1, 4]):
                kept = list(twists)
                told = ask(twists)
                self.assertEqual(twists, kept)
                twists.append(7)
                self.assertEqual(ask(kept), told)


if __name__ == "__main__":
    unittest.main()
