"""[2], [13], [14]: crossings opened, weights, plain sums."""

import copy
import itertools
import random
import unittest

from tanglehouse.errors import TooMany
from tanglehouse.polynomials import is_polynomial
from tanglehouse.webs import check_web, mirrored
from tanglehouse.ways import opened, plain_sums, weight
from tests.helper import CROSSED_ENDS, CURL, FIGURE_EIGHT, HOPF, KNOWN, LEVEL, NOTHING, SINGLE, TORUS, TREFOIL, UPRIGHT
from tests.helper import as_told, chance_web, flat_web, refusal, refused, some_webs, sums_again, twisted_row, walked

RING = ((-2, -1), (2, -1))
LEVEL_ENDS = ((0, 3), (1, 2))
UPRIGHT_ENDS = ((0, 1), (2, 3))
# Of each web, for each of some ways, what is told.
OPENED = (
    (NOTHING, (), ((), 0)),
    (((), (), 20), (), ((), 20)),
    (LEVEL, (), (LEVEL_ENDS, 0)),
    (CROSSED_ENDS, (), (((0, 2), (1, 3)), 0)),
    (((), (7, 5, 3, 5, 3, 7), 2), (), (((0, 5), (1, 3), (2, 4)), 2)),
    (SINGLE, (0,), (UPRIGHT_ENDS, 0)),
    (SINGLE, (1,), (LEVEL_ENDS, 0)),
    ((((0, 1, 2, 3),), (3, 1, 0, 2), 4), (0,), (((0, 3), (1, 2)), 4)),
    ((((0, 1, 2, 3),), (3, 1, 0, 2), 4), (1,), (((0, 2), (1, 3)), 4)),
    # An arc between two places of one crossing, neighbours or opposite ones.
    (CURL, (0,), ((), 2)),
    (CURL, (1,), ((), 1)),
    ((((0, 1, 1, 0),), (), 0), (0,), ((), 1)),
    ((((0, 1, 1, 0),), (), 0), (1,), ((), 2)),
    (TORUS, (0,), ((), 1)),
    (TORUS, (1,), ((), 1)),
    ((((5, 5, 8, 2),), (2, 8), 3), (0,), (((0, 1),), 4)),
    ((((5, 5, 8, 2),), (2, 8), 3), (1,), (((0, 1),), 3)),
    ((((5, 8, 5, 2),), (2, 8), 0), (0,), (((0, 1),), 0)),
    ((((5, 8, 5, 2),), (2, 8), 0), (1,), (((0, 1),), 0)),
    ((((2, 8, 5, 5),), (8, 2), 0), (0,), (((0, 1),), 1)),
    ((((5, 2, 8, 5),), (8, 2), 0), (1,), (((0, 1),), 1)),
    ((((2, 5, 5, 8),), (8, 2), 0), (1,), (((0, 1),), 1)),
    (TREFOIL, (0, 0, 0), ((), 2)),
    (TREFOIL, (1, 1, 1), ((), 3)),
    (TREFOIL, (0, 0, 1), ((), 1)),
    (TREFOIL, (1, 0, 1), ((), 2)),
)
SUMS = (
    (NOTHING, {(): ((0, 1),)}),
    (((), (), 1), {(): RING}),
    (((), (), 2), {(): ((-4, 1), (0, 2), (4, 1))}),
    (LEVEL, {LEVEL_ENDS: ((0, 1),)}),
    (UPRIGHT, {UPRIGHT_ENDS: ((0, 1),)}),
    (CROSSED_ENDS, {((0, 2), (1, 3)): ((0, 1),)}),
    (((), (4, 4), 1), {((0, 1),): RING}),
    (SINGLE, {LEVEL_ENDS: ((-1, 1),), UPRIGHT_ENDS: ((1, 1),)}),
    (CURL, {(): ((1, 1), (5, 1))}),
    (mirrored(CURL), {(): ((-5, 1), (-1, 1))}),
    (TORUS, {(): ((-3, -1), (-1, -1), (1, -1), (3, -1))}),
    (HOPF, {(): ((-6, 1), (-2, 1), (2, 1), (6, 1))}),
    (TREFOIL, {(): ((-9, -1), (-1, 1), (3, 1), (7, 1))}),
    (FIGURE_EIGHT, {(): ((-10, -1), (10, -1))}),
)
# Two strands that lie one above the other at both of their crossings: of one joining the sum is nought.
SLIDES = (
    ((((0, 1, 2, 3), (2, 4, 5, 3)), (0, 1, 4, 5), 0), UPRIGHT_ENDS),
    ((((1, 2, 3, 0), (3, 2, 4, 5)), (0, 1, 4, 5), 0), UPRIGHT_ENDS),
)


def ways_of(web):
    return itertools.product((0, 1), repeat=len(web[0]))


class Opened(unittest.TestCase):
    def test_known(self):
        for web, ways, told in OPENED:
            self.assertIsNone(check_web(web))
            self.assertEqual(opened(web, ways), told, (web, ways))

    def test_as_by_walking(self):
        chance = random.Random(51)
        for web in some_webs(chance, 200) + [flat_web(chance, steps, False) for steps in range(12)]:
            rows = list(ways_of(web)) if len(web[0]) < 5 else [tuple(chance.choices((0, 1), k=len(web[0]))) for _ in range(9)]
            for ways in rows:
                self.assertEqual(opened(web, ways), walked(web, ways), (web, ways))

    def test_as_by_walking_to_the_bounds(self):
        chance = random.Random(52)
        for crossings, ends, rings in ((40, 8, 20), (40, 0, 0), (39, 2, 1)):
            web = chance_web(chance, crossings, ends, rings)
            for ways in ((0,) * crossings, (1,) * crossings, tuple(chance.choices((0, 1), k=crossings))):
                self.assertEqual(opened(web, ways), walked(web, ways))

    def test_kinds_and_order(self):
        chance = random.Random(53)
        for _ in range(100):
            web = chance_web(chance, chance.randrange(6), 8, 1)
            told = opened(web, tuple(chance.choices((0, 1), k=len(web[0]))))
            self.assertEqual([type(part) for part in told], [tuple, int])
            self.assertEqual([type(pair) for pair in told[0]], [tuple] * 4)
            self.assertEqual(sorted(end for pair in told[0] for end in pair), list(range(8)))
            self.assertEqual(list(told[0]), sorted(told[0]))
            self.assertTrue(all(one < other for one, other in told[0]))

    def test_a_mirrored_web_by_the_other_ways(self):
        for web in some_webs(random.Random(54), 30):
            if len(web[0]) < 6:
                for ways in ways_of(web):
                    self.assertEqual(opened(mirrored(web), tuple(1 - way for way in ways)), opened(web, ways))


class Weight(unittest.TestCase):
    def test_known(self):
        cases = [
            ((), 0, ((0, 1),)), ((), 1, RING), ((), 2, ((-4, 1), (0, 2), (4, 1))),
            ((), 3, ((-6, -1), (-2, -3), (2, -3), (6, -1))), ((0,), 0, ((1, 1),)), ((1,), 0, ((-1, 1),)),
            ((0, 1), 0, ((0, 1),)), ((0, 0, 1), 1, ((-1, -1), (3, -1))), ((1, 1, 1), 2, ((-7, 1), (-3, 2), (1, 1))),
            ((0,) * 40, 0, ((40, 1),)), ((1,) * 40, 0, ((-40, 1),)), ((0, 1) * 20, 1, RING),
            ((0,) * 39 + (1,), 1, ((36, -1), (40, -1))),
        ]
        for ways, rings, told in cases:
            self.assertEqual(weight(ways, rings), told, (ways, rings))

    def test_many_rings(self):
        row = [1]
        for rings in range(62):
            sign = -1 if rings % 2 else 1
            told = tuple((5 - 2 * rings + 4 * k, sign * number) for k, number in enumerate(row))
            self.assertEqual(weight((0, 0, 1, 0, 0, 0, 0, 1, 0), rings), told)
            row = [one + other for one, other in zip([0] + row, row + [0])]


class PlainSums(unittest.TestCase):
    def test_known(self):
        for web, told in SUMS:
            self.assertEqual(plain_sums(web), told, web)

    def test_a_joining_whose_sum_is_nought_is_left_out(self):
        for web, gone in SLIDES:
            self.assertIsNone(check_web(web))
            self.assertIn(gone, [opened(web, ways)[0] for ways in ways_of(web)])
            self.assertEqual(plain_sums(web), {LEVEL_ENDS: ((0, 1),)})
            self.assertEqual(plain_sums((web[0], web[1], 1)), {LEVEL_ENDS: RING})

    def test_as_by_walking(self):
        left_out = 0
        chance = random.Random(55)
        webs = [web for web in some_webs(chance, 120) if len(web[0]) < 7]
        webs += [flat_web(chance, 9, shut) for shut in (False, True) * 30]
        for web in webs:
            again = sums_again(web)
            self.assertEqual(plain_sums(web), as_told(again), web)
            left_out += len(again) > len(as_told(again))
        self.assertGreater(left_out, 3)

    def test_kinds(self):
        for web in some_webs(random.Random(56), 30):
            told = plain_sums(web)
            self.assertIs(type(told), dict)
            for joining, polynomial in told.items():
                self.assertEqual({type(joining)} | {type(pair) for pair in joining}, {tuple})
                self.assertTrue(is_polynomial(polynomial) and polynomial)

    def test_ten_crossings_are_reckoned(self):
        chance = random.Random(57)
        for web in (chance_web(chance, 10, 0, 0), chance_web(chance, 10, 8, 20), twisted_row(10)):
            self.assertEqual(plain_sums(web), as_told(sums_again(web)))

    def test_more_are_refused(self):
        chance = random.Random(58)
        for crossings, ends, rings in ((11, 0, 0), (11, 8, 20), (12, 4, 0), (40, 8, 20)):
            web = chance_web(chance, crossings, ends, rings)
            self.assertEqual(refused(plain_sums, web), (TooMany, {}))
            self.assertIsInstance(refusal(plain_sums, web), ValueError)
        curls = tuple((2 * k, 2 * k, 2 * k + 1, 2 * k + 1) for k in range(11))
        self.assertEqual(refused(plain_sums, (curls, (), 0)), (TooMany, {}))
        self.assertIsNone(refused(plain_sums, (curls[:10], (), 0)))

    def test_what_is_told_is_the_askers_own(self):
        for web in KNOWN:
            told = plain_sums(web)
            kept = copy.deepcopy(told)
            told.clear()
            told[()] = ((5, 5),)
            self.assertEqual(plain_sums(web), kept)


if __name__ == "__main__":
    unittest.main()
