"""[2], [3], [10], [19], [20]: webs shut and glued, tangles put together."""

import random
import unittest
from collections import Counter

from tanglehouse.faces import check_flat
from tanglehouse.gluing import above, beside, closed, glued, quarter, shut
from tanglehouse.polynomials import turned_about
from tanglehouse.stores import sums
from tanglehouse.texts import read, shown
from tanglehouse.webs import check_web, mirrored, named_anew, shifted
from tests.helper import CROSSED_ENDS, HOPF, LEVEL, NOTHING, SINGLE, TREFOIL, UPRIGHT
from tests.helper import above_again, chance_tangle, chance_web, flat_web, glued_again, quarter_again, shut_again
from tests.helper import some_webs, together, twisted_row

# Of each web's text, and the end at which it is shut, the text of what comes of it.
SHUT = (
    # One strand with both ends: a ring more.
    ("e 0 0", 0, "o 1"), ("e 0 0", 1, "o 1"), ("e 7 7 o 4", 1, "o 5"),
    ("e 0 1 1 0", 0, "e 0 0"), ("e 0 1 1 0", 1, "e 0 0 o 1"), ("e 0 1 1 0", 2, "e 0 0"),
    ("e 0 1 1 0", 3, "e 0 0 o 1"),
    ("e 0 1 0 1", 0, "e 0 0"), ("e 0 1 0 1", 3, "e 0 0"),
    # Ends 0 and 1 go, ends 5 and 0 go: the others keep their order, from the first on.
    ("e 5 6 7 5 6 7", 0, "e 0 1 1 0"), ("e 5 6 7 5 6 7", 5, "e 0 1 1 0"), ("e 5 6 7 5 6 7", 2, "e 0 1 1 0"),
    ("e 5 6 7 7 5 6", 5, "e 0 1 1 0"), ("e 5 6 7 7 5 6", 2, "e 0 1 0 1 o 1"),
    ("x 0 1 2 3 e 0 1 2 3", 0, "x 0 0 1 2 e 1 2"), ("x 0 1 2 3 e 0 1 2 3", 1, "x 0 1 1 2 e 0 2"),
    ("x 0 1 2 3 e 0 1 2 3", 2, "x 0 1 2 2 e 0 1"), ("x 0 1 2 3 e 0 1 2 3", 3, "x 0 1 2 0 e 1 2"),
    ("x 9 8 7 6 e 6 9 8 7", 0, "x 0 1 2 0 e 1 2"), ("x 0 0 1 2 e 1 2", 1, "x 0 0 1 1"),
    ("x 0 1 0 1 e 5 5 o 2", 0, "x 0 1 0 1 o 3"), ("x 4 9 2 9 x 2 3 3 8 e 8 4", 1, "x 0 1 2 1 x 2 3 3 0"),
)
GLUED = (
    ("", "", 0, ""), ("o 2", "o 3", 0, "o 5"), ("x 0 0 1 1", "", 0, "x 0 0 1 1"), ("", "e 3 3", 0, "e 0 0"),
    ("x 0 0 1 1 o 1", "x 0 0 1 1 o 2", 0, "x 0 0 1 1 x 2 2 3 3 o 3"),
    ("e 0 0", "e 0 0", 0, "e 0 0 1 1"), ("e 0 0", "e 0 0", 1, "e 0 0"), ("e 0 0", "e 0 0", 2, "o 1"),
    # Which ends: the last of the one with the first of the other.
    ("x 0 1 2 3 e 0 1 2 3", "x 0 1 2 3 e 0 1 2 3", 0, "x 0 1 2 3 x 4 5 6 7 e 0 1 2 3 4 5 6 7"),
    ("x 0 1 2 3 e 0 1 2 3", "x 0 1 2 3 e 0 1 2 3", 1, "x 0 1 2 3 x 3 4 5 6 e 0 1 2 4 5 6"),
    ("x 0 1 2 3 e 0 1 2 3", "x 0 1 2 3 e 0 1 2 3", 2, "x 0 1 2 3 x 3 2 4 5 e 0 1 4 5"),
    ("x 0 1 2 3 e 0 1 2 3", "x 0 1 2 3 e 0 1 2 3", 3, "x 0 1 2 3 x 3 2 1 4 e 0 4"),
    ("x 0 1 2 3 e 0 1 2 3", "x 0 1 2 3 e 0 1 2 3", 4, "x 0 1 2 3 x 3 2 1 0"),
    # Strands close through the seam, a ring for each; or go to and fro through it.
    ("e 0 1 1 0", "e 0 1 1 0", 4, "o 2"), ("e 0 0 1 1", "e 0 0 1 1", 4, "o 2"), ("e 0 1 1 0", "e 0 0 1 1", 4, "o 1"),
    ("e 0 1 0 1", "e 0 1 0 1", 4, "o 2"), ("e 0 1 0 1", "e 0 1 1 0", 4, "o 1"),
    ("e 0 0 1 1", "e 0 0 1 1", 2, "e 0 0 1 1 o 1"),
    ("e 0 0 1 1", "e 0 0 1 1", 3, "e 0 0 o 1"), ("e 0 0 1 1 2 2", "e 0 1 1 2 2 0", 6, "o 1"),
    ("e 0 0 1 1 2 2", "e 0 0 1 1 2 2", 6, "o 3"), ("e 0 0 1 1 2 2", "e 0 1 1 2 2 0", 5, "e 0 0"),
    ("e 0 1 1 2 2 3 3 0 o 1", "e 0 0 1 1 2 2 3 3 o 1", 8, "o 3"),
    ("e 0 1 1 2 2 3 3 0", "e 0 1 1 2 2 3 3 0", 8, "o 4"),
    # The other alone has the ends that are left; or the one.
    ("e 4 4", "x 0 1 2 3 e 3 2 1 0", 2, "x 0 1 2 2 e 1 0"), ("x 0 1 2 3 e 3 2 1 0", "e 4 4", 2, "x 0 0 1 2 e 2 1"),
)


def ended_webs(chance, many):
    """Webs with ends, flat ones and others."""
    told = [web for web in some_webs(chance, many) if web[1]]
    return told + [web for web in (flat_web(chance, chance.randint(1, 14), False) for _ in range(many)) if web[1]]


class Shut(unittest.TestCase):
    def test_known(self):
        for text, place, wanted in SHUT:
            self.assertEqual(shown(shut(read(text), place)), wanted, (text, place))

    def test_each_end_as_by_walking(self):
        seen = Counter()
        for web in ended_webs(random.Random(71), 120):
            for place in range(len(web[1])):
                told = shut(web, place)
                self.assertEqual(told, shut_again(web, place), (web, place))
                seen[len(web[1])] += 1
                seen["ring"] += told[2] > web[2]
        self.assertTrue(min(seen[2], seen[4], seen[6], seen[8], seen["ring"]) > 30, seen)

    def test_order_of_crossings_and_ends(self):
        chance = random.Random(72)
        for web in ended_webs(chance, 40):
            for place in range(len(web[1])):
                told = shut(web, place)
                self.assertIsNone(check_web(told))
                self.assertEqual(named_anew(told), told)
                self.assertEqual((len(told[0]), len(told[1])), (len(web[0]), len(web[1]) - 2))

    def test_on_and_on_till_there_are_no_ends(self):
        chance = random.Random(73)
        for web in ended_webs(chance, 60):
            again = web
            while web[1]:
                place = chance.randrange(len(web[1]))
                web, again = shut(web, place), shut_again(again, place)
            self.assertEqual(web, again)
            self.assertIsNone(check_web(web))

    def test_kinds(self):
        for place in range(4):
            told = shut(SINGLE, place)
            self.assertEqual([type(part) for part in (told,) + told + told[0]], [tuple, tuple, tuple, int, tuple])


class Glued(unittest.TestCase):
    def test_known(self):
        for one, other, many, wanted in GLUED:
            self.assertEqual(shown(glued(read(one), read(other), many)), wanted, (one, other, many))

    def test_each_number_as_by_walking(self):
        chance = random.Random(74)
        seen = Counter()
        webs = ended_webs(chance, 40) + [NOTHING, TREFOIL, HOPF, ((), (), 3)]
        for one in webs:
            for other in chance.sample(webs, 6) + [one]:
                for many in range(min(len(one[1]), len(other[1])) + 1):
                    told = glued(one, other, many)
                    self.assertEqual(told, glued_again(one, other, many), (one, other, many))
                    self.assertIsNone(check_web(told))
                    seen[many] += 1
                    seen["rings"] += told[2] > one[2] + other[2] + 1
        self.assertTrue(min(seen.values()) > 10 and len(seen) == 10, seen)

    def test_same_names_in_both(self):
        for names in ((0, 1, 2, 3), (3, 2, 1, 0), (10 ** 9 - 1, 0, 7, 5)):
            web = ((names,), names, 1)
            for many in range(5):
                self.assertEqual(glued(web, web, many), glued((((4, 5, 6, 8),), (4, 5, 6, 8), 1), web, many))

    def test_glued_to_straight_arcs_it_stays(self):
        chance = random.Random(75)
        for web in ended_webs(chance, 40):
            many = len(web[1])
            arcs = tuple(range(many)) + tuple(reversed(range(many)))
            self.assertEqual(glued(web, ((), arcs, 0), many), named_anew(web))
            self.assertEqual(glued(((), arcs, 0), web, many), named_anew(web))

    def test_to_the_bounds(self):
        self.assertEqual(glued(twisted_row(20), twisted_row(20), 2), named_anew(twisted_row(40)))
        one = chance_web(random.Random(76), 40, 8, 20)
        for many in range(9):
            self.assertEqual(glued(one, ((), (0, 1, 2, 3, 3, 1, 2, 0), 0), many),
                             glued_again(one, ((), (0, 1, 2, 3, 3, 1, 2, 0), 0), many))


class Flat(unittest.TestCase):
    def test_what_is_put_together_of_flat_webs_is_flat(self):
        chance = random.Random(77)
        webs = [flat_web(chance, chance.randint(1, 16), False) for _ in range(50)]
        for one in webs:
            self.assertIsNone(check_flat(one))
            for place in range(len(one[1])):
                self.assertIsNone(check_flat(shut(one, place)))
            other = chance.choice(webs)
            for many in range(min(len(one[1]), len(other[1])) + 1):
                self.assertIsNone(check_flat(glued(one, other, many)), (one, other, many))

    def test_tangles(self):
        chance = random.Random(78)
        flat = [LEVEL, UPRIGHT, SINGLE]
        while len(flat) < 20:
            web = flat_web(chance, chance.randint(2, 14), False)
            if len(web[1]) == 4:
                flat.append(web)
        for one in flat:
            for other in flat:
                self.assertIsNone(check_flat(beside(one, other)))
                self.assertIsNone(check_flat(above(one, other)))
            for told in (quarter(one), closed(one, 0), closed(one, 1)):
                self.assertIsNone(check_flat(told))


class Tangles(unittest.TestCase):
    def test_without_crossings(self):
        ring = lambda web: (web[0], web[1], web[2] + 1)
        cases = (
            (beside, LEVEL, LEVEL, LEVEL), (beside, LEVEL, UPRIGHT, UPRIGHT), (beside, UPRIGHT, LEVEL, UPRIGHT),
            (beside, UPRIGHT, UPRIGHT, ring(UPRIGHT)), (above, UPRIGHT, UPRIGHT, UPRIGHT),
            (above, LEVEL, UPRIGHT, LEVEL),
            (above, UPRIGHT, LEVEL, LEVEL), (above, LEVEL, LEVEL, ring(LEVEL)),
            (beside, CROSSED_ENDS, LEVEL, CROSSED_ENDS),
            (beside, CROSSED_ENDS, CROSSED_ENDS, LEVEL), (above, CROSSED_ENDS, CROSSED_ENDS, UPRIGHT),
            (above, CROSSED_ENDS, LEVEL, LEVEL), (beside, ring(LEVEL), ring(UPRIGHT), ring(ring(UPRIGHT))),
        )
        for put, one, other, wanted in cases:
            self.assertEqual(put(one, other), wanted, (put, one, other))
        turned = ((LEVEL, UPRIGHT), (UPRIGHT, LEVEL), (CROSSED_ENDS, CROSSED_ENDS), (ring(LEVEL), ring(UPRIGHT)))
        for web, wanted in turned:
            self.assertEqual(quarter(web), wanted)
        for web, rings in ((LEVEL, (2, 1)), (UPRIGHT, (1, 2)), (CROSSED_ENDS, (1, 1)), (ring(LEVEL), (3, 2))):
            self.assertEqual([closed(web, way) for way in (0, 1)], [((), (), many) for many in rings])

    def test_with_crossings(self):
        self.assertEqual(shown(beside(SINGLE, SINGLE)), "x 0 1 2 3 x 3 2 4 5 e 0 1 4 5")
        self.assertEqual(shown(above(SINGLE, SINGLE)), "x 0 1 2 3 x 1 4 5 2 e 0 4 5 3")
        self.assertEqual(shown(quarter(SINGLE)), "x 0 1 2 3 e 3 0 1 2")
        self.assertEqual(shown(closed(SINGLE, 0)), "x 0 1 1 0")
        self.assertEqual(shown(closed(SINGLE, 1)), "x 0 0 1 1")
        # One strand closes at its crossing, on the left and on the right.
        left, right = read("x 0 1 1 2 e 0 2 3 3"), read("x 0 1 1 2 e 3 3 2 0")
        self.assertEqual(shown(beside(left, right)), "x 0 1 1 2 x 3 4 4 5 e 0 2 5 3 o 1")
        self.assertEqual(shown(beside(right, left)), "x 0 1 1 2 x 0 3 3 2 e 4 4 5 5")
        self.assertEqual(shown(above(left, right)), "x 0 1 1 2 x 3 4 4 5 e 0 2 5 3")
        self.assertEqual(shown(closed(left, 0)), "x 0 1 1 0")

    def test_as_by_walking(self):
        chance = random.Random(79)
        webs = [LEVEL, UPRIGHT, SINGLE, CROSSED_ENDS] + [chance_tangle(chance, chance.randrange(9)) for _ in range(60)]
        for one in webs:
            for other in chance.sample(webs, 8) + [one]:
                self.assertEqual(beside(one, other), glued_again(one, other, 2))
                self.assertEqual(above(one, other), above_again(one, other))
            self.assertEqual(quarter(one), quarter_again(one))
            self.assertEqual(closed(one, 0), together([one], [((0, 0), (0, 3)), ((0, 1), (0, 2))], []))
            self.assertEqual(closed(one, 1), together([one], [((0, 0), (0, 1)), ((0, 2), (0, 3))], []))

    def test_a_quarter(self):
        chance = random.Random(80)
        for _ in range(40):
            one = chance_tangle(chance, chance.randrange(9))
            self.assertEqual(quarter(one), named_anew(shifted(one, 3)))
            self.assertEqual(quarter(quarter(one)), named_anew(shifted(one, 2)))
            self.assertEqual(quarter(quarter(quarter(quarter(one)))), named_anew(one))

    def test_half_twists_closed(self):
        # Beside one another three crossings close to a trefoil by way 0, above one another by way 1.
        row = twisted_row(3)
        column = above(SINGLE, above(SINGLE, SINGLE))
        trefoil = sums(TREFOIL)[()]
        self.assertEqual(sums(closed(row, 0))[()], turned_about(trefoil))
        self.assertEqual(sums(closed(column, 1))[()], trefoil)
        self.assertEqual(sums(closed(mirrored(row), 0))[()], trefoil)
        # A ring with three curls, each of which counts for -x^3.
        self.assertEqual(sums(closed(row, 1)), {(): ((7, 1), (11, 1))})
        self.assertEqual(sums(closed(beside(SINGLE, SINGLE), 0)), sums(HOPF))


class Given(unittest.TestCase):
    def test_asked_again_the_same_is_told(self):
        one, other = chance_web(random.Random(81), 5, 4, 1), chance_web(random.Random(82), 4, 4, 2)
        asked = ((shut, one, 3), (glued, one, other, 3), (beside, one, other), (above, one, other), (quarter, one),
                 (closed, one, 0))
        told = [row[0](*row[1:]) for row in asked]
        self.assertEqual([row[0](*row[1:]) for row in reversed(asked)], told[::-1])


if __name__ == "__main__":
    unittest.main()
