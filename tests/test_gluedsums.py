"""[2], [3], [21]: the sums of what is put together, of the sums of its parts alone."""

import copy
import random
import unittest
from collections import Counter

from tanglehouse.errors import TooWide
from tanglehouse.gluedsums import glued_sums, mirrored_sums, shifted_sums, shut_sums
from tanglehouse.gluing import glued, shut
from tanglehouse.polynomials import is_polynomial
from tanglehouse.stores import sums
from tanglehouse.ways import plain_sums
from tanglehouse.webs import mirrored, shifted
from tests.helper import CROSSED_ENDS, HOPF, KNOWN, LEVEL, NOTHING, SINGLE, TREFOIL, UPRIGHT
from tests.helper import as_told, chance_web, flat_web, glued_again, narrow_web, refusal, shut_again, sums_again
from tests.helper import twisted_row

ONE = ((0, 1),)
RING = ((-2, -1), (2, -1))
LEVEL_ENDS = ((0, 3), (1, 2))
UPRIGHT_ENDS = ((0, 1), (2, 3))
CROSSED = ((0, 2), (1, 3))


def small_webs(chance, many):
    """The known webs and others of few crossings, flat or not, with none to eight ends."""
    told = list(KNOWN)
    for k in range(many):
        told.append(chance_web(chance, chance.randrange(5), 2 * (k % 5), chance.choice((0, 0, 1, 20))))
        told.append(flat_web(chance, chance.randint(1, 9), chance.randrange(4) == 0))
    return told


def own(told):
    """Sums that are well told, or a complaint."""
    for joining, polynomial in told.items():
        assert is_polynomial(polynomial) and polynomial != (), polynomial
        assert list(joining) == sorted(joining) and all(one < other for one, other in joining), joining
    return told


class Shifted(unittest.TestCase):
    def test_known(self):
        one = {((0, 1), (2, 5), (3, 4)): ((4, 7),), ((0, 3), (1, 2), (4, 5)): ((-1, 2), (0, 3))}
        self.assertEqual(shifted_sums(one, 6, 0), one)
        self.assertEqual(shifted_sums(one, 6, 6), one)
        self.assertEqual(shifted_sums(one, 6, 1), {((0, 5), (1, 4), (2, 3)): ((4, 7),),
                                                   ((0, 1), (2, 5), (3, 4)): ((-1, 2), (0, 3))})
        self.assertEqual(shifted_sums(one, 6, 2), {((0, 3), (1, 2), (4, 5)): ((4, 7),),
                                                   ((0, 5), (1, 4), (2, 3)): ((-1, 2), (0, 3))})
        self.assertEqual(shifted_sums({(): RING}, 0, 0), {(): RING})
        self.assertEqual(shifted_sums({((0, 1),): RING}, 2, 1), {((0, 1),): RING})
        self.assertEqual(shifted_sums({}, 4, 3), {})

    def test_as_the_shifted_webs(self):
        for web in small_webs(random.Random(91), 25):
            own_sums = plain_sums(web)
            for many in range(len(web[1]) + 1):
                self.assertEqual(own(shifted_sums(own_sums, len(web[1]), many)), plain_sums(shifted(web, many)), web)


class MirroredSums(unittest.TestCase):
    def test_known(self):
        self.assertEqual(mirrored_sums({LEVEL_ENDS: ((-1, 1),), UPRIGHT_ENDS: ((1, 1), (4, -3))}),
                         {LEVEL_ENDS: ((1, 1),), UPRIGHT_ENDS: ((-4, -3), (-1, 1))})
        self.assertEqual(mirrored_sums({}), {})

    def test_as_the_mirrored_webs(self):
        for web in small_webs(random.Random(92), 25):
            self.assertEqual(own(mirrored_sums(plain_sums(web))), plain_sums(mirrored(web)), web)
            self.assertEqual(mirrored_sums(mirrored_sums(plain_sums(web))), plain_sums(web), web)


class ShutSums(unittest.TestCase):
    def test_known(self):
        self.assertEqual(shut_sums({((0, 1),): ONE}, 2, 0), {(): RING})
        self.assertEqual(shut_sums({((0, 1),): ONE}, 2, 1), {(): RING})
        for place in range(4):
            level = RING if place in (1, 3) else ONE
            self.assertEqual(shut_sums({LEVEL_ENDS: ONE}, 4, place), {((0, 1),): level})
            self.assertEqual(shut_sums({CROSSED: ONE}, 4, place), {((0, 1),): ONE})
        # Both become one joining: x times the ring, and x^-1.
        self.assertEqual(shut_sums(plain_sums(SINGLE), 4, 0), {((0, 1),): ((3, -1),)})
        self.assertEqual(shut_sums(plain_sums(SINGLE), 4, 1), {((0, 1),): ((-3, -1),)})
        self.assertEqual(shut_sums({((0, 5), (1, 4), (2, 3)): ((3, 2),)}, 6, 5), {LEVEL_ENDS: ((1, -2), (5, -2))})
        self.assertEqual(shut_sums({((0, 2), (1, 4), (3, 5)): ((3, 2),)}, 6, 5), {LEVEL_ENDS: ((3, 2),)})
        self.assertEqual(shut_sums({}, 4, 3), {})

    def test_what_comes_to_nought_is_left_out(self):
        one = {LEVEL_ENDS: ONE, UPRIGHT_ENDS: ((-2, 1), (2, 1))}
        self.assertEqual(shut_sums(one, 4, 1), {})
        self.assertEqual(shut_sums({LEVEL_ENDS: ONE, CROSSED: ((0, -1),)}, 4, 0), {})
        self.assertEqual(shut_sums({LEVEL_ENDS: ONE, CROSSED: ((0, -1), (7, 1))}, 4, 0), {((0, 1),): ((7, 1),)})

    def test_each_end_as_the_webs_shut(self):
        seen = Counter()
        for web in small_webs(random.Random(93), 30):
            own_sums = plain_sums(web)
            for place in range(len(web[1])):
                told = own(shut_sums(own_sums, len(web[1]), place))
                self.assertEqual(told, plain_sums(shut(web, place)), (web, place))
                seen[len(web[1])] += 1
        self.assertTrue(min(seen[2], seen[4], seen[6], seen[8]) > 20, seen)

    def test_as_by_walking(self):
        chance = random.Random(94)
        for _ in range(25):
            web = chance_web(chance, chance.randrange(6), 2 * chance.randint(1, 4), chance.randrange(2))
            place = chance.randrange(len(web[1]))
            self.assertEqual(shut_sums(as_told(sums_again(web)), len(web[1]), place),
                             as_told(sums_again(shut_again(web, place))))

    def test_on_and_on(self):
        chance = random.Random(95)
        for _ in range(25):
            web = chance_web(chance, 3, 8, 1)
            told = plain_sums(web)
            while web[1]:
                place = chance.randrange(len(web[1]))
                told, web = shut_sums(told, len(web[1]), place), shut(web, place)
            self.assertEqual(told, plain_sums(web))
            self.assertEqual(list(told), [()])


class GluedSums(unittest.TestCase):
    def test_known(self):
        one = plain_sums(SINGLE)
        back = plain_sums(mirrored(SINGLE))
        self.assertEqual(glued_sums({(): RING}, 0, {(): RING}, 0, 0), {(): ((-4, 1), (0, 2), (4, 1))})
        self.assertEqual(glued_sums({((0, 1),): ((1, 2),)}, 2, {(): ((3, 5),)}, 0, 0), {((0, 1),): ((4, 10),)})
        arcs = {((0, 1),): ((1, 2),)}, {((0, 1),): ((3, 5),)}
        self.assertEqual(glued_sums(arcs[0], 2, arcs[1], 2, 0), {UPRIGHT_ENDS: ((4, 10),)})
        self.assertEqual(glued_sums(arcs[0], 2, arcs[1], 2, 1), {((0, 1),): ((4, 10),)})
        self.assertEqual(glued_sums(arcs[0], 2, arcs[1], 2, 2), {(): ((2, -10), (6, -10))})
        self.assertEqual(glued_sums(one, 4, one, 4, 2), {LEVEL_ENDS: ((-2, 1),), UPRIGHT_ENDS: ((0, 1), (4, -1))})
        self.assertEqual(glued_sums(one, 4, {}, 4, 2), {})
        # A crossing and its mirror slide from one another: the upright sums come to nought.
        self.assertEqual(glued_sums(one, 4, back, 4, 2), {LEVEL_ENDS: ONE})
        self.assertEqual(glued_sums(back, 4, one, 4, 2), {LEVEL_ENDS: ONE})
        self.assertEqual(glued_sums(one, 4, one, 4, 4), plain_sums((((0, 1, 2, 3), (3, 2, 1, 0)), (), 0)))

    def test_which_ends(self):
        one, other = {((0, 2), (1, 3)): ONE}, {((0, 1), (2, 4), (3, 5)): ((2, 1),)}
        self.assertEqual(glued_sums(one, 4, other, 6, 1), {((0, 2), (1, 3), (4, 6), (5, 7)): ((2, 1),)})
        self.assertEqual(glued_sums(one, 4, other, 6, 2), {((0, 1), (2, 4), (3, 5)): ((2, 1),)})
        self.assertEqual(glued_sums(one, 4, other, 6, 3), {((0, 2), (1, 3)): ((2, 1),)})
        self.assertEqual(glued_sums(other, 6, one, 4, 1), {((0, 1), (2, 4), (3, 6), (5, 7)): ((2, 1),)})
        # Ends 3 and 5 of the one are joined with 2 and 0 of the other, 2 and 4 with 3 and 1: two rings.
        self.assertEqual(glued_sums(other, 6, one, 4, 4), {((0, 1),): ((-2, 1), (2, 2), (6, 1))})

    def test_each_number_as_the_webs_glued(self):
        chance = random.Random(96)
        seen = Counter()
        webs = small_webs(chance, 30)
        for one in webs:
            for other in chance.sample(webs, 2) + [one]:
                ends = (len(one[1]), len(other[1]))
                for many in range(min(ends) + 1):
                    told = own(glued_sums(plain_sums(one), ends[0], plain_sums(other), ends[1], many))
                    web = glued(one, other, many)
                    if len(web[0]) < 8:
                        self.assertEqual(told, plain_sums(web), (one, other, many))
                        seen[many] += 1
        self.assertTrue(len(seen) == 9 and min(seen.values()) > 8, seen)

    def test_as_by_walking(self):
        chance = random.Random(97)
        for _ in range(25):
            one, other = [chance_web(chance, chance.randrange(4), 2 * chance.randrange(5), chance.randrange(2))
                          for _ in range(2)]
            many = chance.randint(0, min(len(one[1]), len(other[1])))
            told = glued_sums(as_told(sums_again(one)), len(one[1]), as_told(sums_again(other)), len(other[1]), many)
            self.assertEqual(told, as_told(sums_again(glued_again(one, other, many))))

    def test_of_all_joinings_of_eight_ends(self):
        # Without crossings each way of joining is told by itself.
        chance = random.Random(98)
        for _ in range(60):
            one, other = chance_web(chance, 0, 8, 0), chance_web(chance, 0, 8, 0)
            for many in range(9):
                self.assertEqual(glued_sums(plain_sums(one), 8, plain_sums(other), 8, many),
                                 plain_sums(glued(one, other, many)))

    def test_to_the_bounds(self):
        half = sums(twisted_row(20))
        self.assertEqual(glued_sums(half, 4, half, 4, 2), sums(twisted_row(40)))
        chance = random.Random(99)
        many = 0
        while many < 10:
            one, other = narrow_web(chance, 12, 6), narrow_web(chance, 12, 6)
            seam = min(len(one[1]), len(other[1]))
            web = glued(one, other, seam)
            if isinstance(refusal(sums, one) or refusal(sums, other) or refusal(sums, web), TooWide):
                continue
            self.assertEqual(own(glued_sums(sums(one), len(one[1]), sums(other), len(other[1]), seam)), sums(web))
            many += 1

    def test_rings_together(self):
        webs = ((LEVEL, UPRIGHT), (SINGLE, LEVEL), (CROSSED_ENDS, SINGLE), (NOTHING, TREFOIL), (HOPF, TREFOIL))
        for one, other in webs:
            one, other = (one[0], one[1], 20), (other[0], other[1], 3)
            ends = (len(one[1]), len(other[1]))
            for many in range(min(ends) + 1):
                self.assertEqual(glued_sums(plain_sums(one), ends[0], plain_sums(other), ends[1], many),
                                 plain_sums(glued(one, other, many)))


class Given(unittest.TestCase):
    def test_what_is_handed_in_stays_and_what_is_told_is_the_askers_own(self):
        one, other = [plain_sums(chance_web(random.Random(seed), 4, 4, 1)) for seed in (83, 84)]
        asked = ((shifted_sums, one, 4, 0), (shifted_sums, one, 4, 3), (mirrored_sums, one), (shut_sums, one, 4, 3),
                 (glued_sums, one, 4, other, 4, 0), (glued_sums, one, 4, other, 4, 2), (glued_sums, one, 4, one, 4, 4))
        kept = copy.deepcopy((one, other))
        for row in asked:
            told = row[0](*row[1:])
            self.assertIs(type(told), dict)
            self.assertEqual((one, other), kept)
            first = dict(told)
            told.clear()
            told[()] = ((0, 99),)
            self.assertEqual((one, other), kept)
            self.assertEqual(row[0](*row[1:]), first)

    def test_what_is_done_to_it_behind_the_call_changes_nothing(self):
        one = plain_sums(SINGLE)
        told = shifted_sums(one, 4, 0)
        one.clear()
        self.assertEqual(told, plain_sums(SINGLE))


if __name__ == "__main__":
    unittest.main()
