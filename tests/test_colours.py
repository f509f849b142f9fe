"""[2], [3], [33], [34]: colourings, how many there are, and that turnings keep their number."""

import functools
import itertools
import math
import random
import unittest
from collections import Counter

from tanglehouse.colours import colours, is_colouring
from tanglehouse.fractions import twisted
from tanglehouse.gluing import above, beside, closed
from tanglehouse.texts import read
from tanglehouse.turnings import turned, turnings
from tanglehouse.webs import mirrored
from tests.helper import CURL, FIGURE_EIGHT, HOPF, KNOWN, NOTHING, SINGLE, TORUS, TREFOIL
from tests.helper import arcs_of, chance_lists, chance_web, every_web, flat_web, narrow_web, turnable, twisted_row
from tests.helper import value_again

EACH = range(2, 61)
SOME = (2, 3, 4, 6, 8, 9, 12, 35, 49, 60)
# Three columns of three crossings: what a colouring leaves free comes to 3 and 9, not to 27.
THREES = closed(functools.reduce(beside, [functools.reduce(above, [SINGLE] * 3)] * 3), 0)


def is_colouring_again(web, m, colouring):
    return (sorted(colouring) == arcs_of(web) and set(colouring.values()) <= set(range(m))
            and all(colouring[b] == colouring[d] and (colouring[a] + colouring[c]) % m == 2 * colouring[b] % m
                    for a, b, c, d in web[0]))


def all_dicts(arcs, numbers):
    """All dicts that tell one of these numbers for each arc."""
    return (dict(zip(arcs, row)) for row in itertools.product(numbers, repeat=len(arcs)))


def counted(web, m):
    """How many colourings there are, times m for each ring, by trying all."""
    return sum(is_colouring_again(web, m, one) for one in all_dicts(arcs_of(web), range(m))) * m ** web[2]


def colours_again(web, m):
    """The same, crossing by crossing: how many ways lead to each row of numbers of the arcs that come again."""
    known, states = [], {(): 1}
    for at, row in enumerate(web[0]):
        later = {arc for other in web[0][at + 1:] for arc in other}
        keep = [arc for arc in dict.fromkeys(known + list(row)) if arc in later]
        fresh = Counter()
        for state, many in states.items():
            for a, b in itertools.product(range(m), repeat=2):
                told = dict(zip(known, state))
                if all(told.setdefault(arc, number) == number for arc, number in zip(row, (a, b, (2 * b - a) % m, b))):
                    fresh[tuple(told[arc] for arc in keep)] += many
        known, states = keep, fresh
    free = len(set(web[1]) - {arc for row in web[0] for arc in row})
    return sum(states.values()) * m ** (free + web[2])


def prime_powers(m):
    """The greatest powers of primes that divide m."""
    told = []
    for prime in (2, 3, 5, 7, 11, 13, 17, 19, 23, 29, 31, 37, 41, 43, 47, 53, 59):
        power = 1
        while m % (power * prime) == 0:
            power *= prime
        told += [power] * (power > 1)
    return told


def colours_by_power(web, prime, m):
    """The same by m, a power of a prime: of all numbers that are left the one that the prime divides least is taken."""
    arcs = arcs_of(web)
    left = []
    for a, b, c, d in web[0]:
        for terms in (((a, 1), (c, 1), (b, -2)), ((b, 1), (d, -1))):
            row = Counter()
            for arc, number in terms:
                row[arc] += number
            left.append({arc: number % m for arc, number in row.items() if number % m})
    many = m ** (len(arcs) + web[2])
    while any(left):
        shared, at, arc = min((math.gcd(number, m), at, arc) for at, row in enumerate(left)
                              for arc, number in row.items())
        taken = left.pop(at)
        back = pow(taken[arc] // shared, -1, m)
        # So often the row is taken from another one that the arc stands there no more, which leaves nothing over.
        for row in left:
            often = row.get(arc, 0) // shared * back
            for other, number in taken.items():
                row[other] = (row.get(other, 0) - often * number) % m
                if row[other] == 0:
                    del row[other]
        many = many // m * shared
    return many


class IsColouring(unittest.TestCase):
    def test_trefoil_by_3(self):
        good = [one for one in all_dicts(range(1, 7), range(3)) if is_colouring(TREFOIL, 3, one)]
        # All arcs have one number, or each of the three stands at some.
        self.assertEqual(Counter(len(set(one.values())) for one in good), {1: 3, 3: 6})
        self.assertIn({1: 0, 2: 2, 3: 2, 4: 1, 5: 1, 6: 0}, good)

    def test_all_dicts_of_small_webs(self):
        webs = [NOTHING, CURL, SINGLE, HOPF, TORUS, mirrored(CURL), ((), (0, 1, 1, 0), 3)]
        webs += list(every_web(1, 2)) + list(every_web(2, 0))[::9]
        for web in webs:
            for m in (2, 3, 4):
                for one in all_dicts(arcs_of(web), range(-1, m + 1) if m < 4 else range(m)):
                    self.assertIs(is_colouring(web, m, one), is_colouring_again(web, m, one), (web, m, one))

    def test_too_few_and_too_many(self):
        for web in (TREFOIL, HOPF, SINGLE, CURL, ((), (4, 4), 0), ((), (0, 1, 0, 1), 2)):
            for m in (2, 3, 60):
                whole = {arc: 1 for arc in arcs_of(web)}
                self.assertIs(is_colouring(web, m, whole), True)
                for arc in whole:
                    self.assertIs(is_colouring(web, m, {one: 1 for one in whole if one != arc}), False)
                    self.assertIs(is_colouring(web, m, {one if one != arc else 77: 1 for one in whole}), False)
                for arc in (77, -1, 10 ** 60):
                    self.assertIs(is_colouring(web, m, {**whole, arc: 1}), False)
                self.assertIs(is_colouring(web, m, {}), False)
        self.assertIs(is_colouring(NOTHING, 5, {}), True)
        self.assertIs(is_colouring(((), (), 3), 5, {}), True)
        self.assertIs(is_colouring(((), (), 3), 5, {0: 0}), False)

    def test_numbers_below_0_and_beyond(self):
        for web in (TREFOIL, HOPF, SINGLE, ((), (4, 4), 0)):
            for m in (2, 7, 60):
                for number in (0, 1, m - 1):
                    self.assertIs(is_colouring(web, m, {arc: number for arc in arcs_of(web)}), True)
                for number in (-1, m, m + 1, -m, 2 * m, 10 ** 60):
                    self.assertIs(is_colouring(web, m, {arc: number for arc in arcs_of(web)}), False)
                for arc in arcs_of(web):
                    # The same by m, but not a number from 0 to m - 1.
                    for number in (m, -m):
                        self.assertIs(is_colouring(web, m, {one: number * (one == arc) for one in arcs_of(web)}), False)

    def test_broken_at_one_crossing(self):
        self.assertIs(is_colouring(SINGLE, 7, {0: 3, 1: 5, 2: 0, 3: 5}), True)
        self.assertIs(is_colouring(SINGLE, 7, {0: 0, 1: 5, 2: 3, 3: 5}), True)
        for broken in ({0: 3, 1: 5, 2: 1, 3: 5}, {0: 4, 1: 5, 2: 0, 3: 5}, {0: 3, 1: 4, 2: 0, 3: 5},
                       {0: 3, 1: 5, 2: 0, 3: 4}, {0: 3, 1: 4, 2: 0, 3: 4}, {0: 5, 1: 3, 2: 5, 3: 0}):
            self.assertIs(is_colouring(SINGLE, 7, broken), False)
        chance = random.Random(217)
        many = 0
        for _ in range(40):
            web = twisted_row(chance.randint(1, 12))
            m = chance.choice(EACH)
            told = {0: chance.randrange(m), 1: chance.randrange(m)}
            for a, b, c, d in web[0]:
                told[c], told[d] = (2 * told[b] - told[a]) % m, told[b]
            self.assertIs(is_colouring(web, m, told), True)
            for arc in told:
                # Another number at one arc alone breaks a crossing.
                broken = {**told, arc: (told[arc] + 1) % m}
                self.assertIs(is_colouring(web, m, broken), False, (web, m, broken))
                many += 1
        self.assertGreater(many, 200)

    def test_any_order_of_its_arcs(self):
        self.assertIs(is_colouring(TREFOIL, 3, {6: 0, 5: 1, 4: 1, 3: 2, 2: 2, 1: 0}), True)
        self.assertIs(is_colouring(TREFOIL, 3, {3: 2, 1: 0, 6: 0, 2: 2, 4: 1, 5: 1}), True)


class Colours(unittest.TestCase):
    def test_known(self):
        for m in EACH:
            self.assertEqual(colours(NOTHING, m), 1)
            self.assertEqual(colours(((), (), 3), m), m ** 3)
            self.assertEqual(colours(((), (5, 5), 0), m), m)
            self.assertEqual(colours(((), (0, 1, 1, 0), 20), m), m ** 22)
            self.assertEqual(colours(SINGLE, m), m * m)
            self.assertEqual(colours(CURL, m), m)
            self.assertEqual(colours(TREFOIL, m), m * math.gcd(m, 3))
            self.assertEqual(colours(FIGURE_EIGHT, m), m * math.gcd(m, 5))
            self.assertEqual(colours(HOPF, m), m * math.gcd(m, 2))
            self.assertEqual(colours((HOPF[0], (), 2), m), m ** 3 * math.gcd(m, 2))

    def test_half_twists(self):
        for many in range(1, 26):
            web = closed(twisted_row(many), 0)
            for m in SOME:
                self.assertEqual(colours(web, m), m * math.gcd(m, many), (many, m))

    def test_by_no_primes(self):
        # By 4 and by 8 two times a number leaves nought for others than by 2; what is free comes to 3 and 9.
        four = closed(twisted_row(4), 0)
        self.assertEqual([colours(four, m) for m in (2, 4, 6, 8, 12, 16, 60)], [4, 16, 12, 32, 48, 64, 240])
        self.assertEqual([colours(THREES, m) for m in (3, 9, 27, 2, 60)], [27, 243, 729, 2, 60 * 9])
        self.assertEqual([counted(closed(twisted_row(2), 0), m) for m in (2, 4, 6)], [4, 8, 12])

    def test_columns_beside_one_another(self):
        column = lambda many: functools.reduce(above, [SINGLE] * many)
        for row in ((2, 4), (4, 6), (6, 10), (12, 20, 3), (2, 2, 2, 2), (9, 3, 15)):
            web = closed(functools.reduce(beside, [column(many) for many in row]), 1)
            for m in EACH:
                self.assertEqual(colours(web, m), m * math.prod(math.gcd(m, many) for many in row), (row, m))

    def test_lists_of_twists_closed(self):
        # A tangle of twists, closed, has what its value's top, or its bottom, has in common with m.
        for twists in chance_lists(random.Random(218), 12):
            top, bottom = value_again(twists)
            web = twisted(twists)
            for way, number in ((0, top), (1, bottom)):
                for m in (2, 3, 4, 7, 36, 60):
                    self.assertEqual(colours(closed(web, way), m), m * math.gcd(m, number), (twists, way, m))

    def test_small_ones_by_trying_all(self):
        webs = list(KNOWN[4:]) + [HOPF, NOTHING] + list(every_web(1, 0)) + list(every_web(1, 2)) + list(every_web(1, 4))
        for web in webs + list(every_web(2, 0)):
            for m in (2, 3, 4, 6):
                self.assertEqual(colours(web, m), counted(web, m), (web, m))

    def test_by_chance_crossing_by_crossing(self):
        chance = random.Random(219)
        seen = Counter()
        for _ in range(60):
            web = narrow_web(chance, chance.randint(1, 12), 4)
            web = (web[0], web[1], chance.choice((0, 0, 2)))
            for m in (2, 3, 4, 5, 6):
                wanted = colours_again(web, m)
                self.assertEqual(colours(web, m), wanted, (web, m))
                seen[m] += wanted > m ** (web[2] + 1)
        for _ in range(20):
            web = flat_web(chance, chance.randint(4, 14), chance.randrange(2) == 0)
            for m in (2, 3, 4):
                self.assertEqual(colours(web, m), colours_again(web, m), (web, m))
        self.assertTrue(min(seen.values()) > 10, seen)

    def test_several_divisors(self):
        chance = random.Random(220)
        webs = [THREES] + [chance_web(chance, chance.randint(1, 12), 2 * chance.randrange(3), 0) for _ in range(25)]
        for web in webs + [closed(twisted_row(12), 0)]:
            for m in (6, 10, 12, 15, 20, 24, 30, 36, 42, 48, 60):
                wanted = math.prod(colours(web, power) for power in prime_powers(m))
                self.assertEqual(colours(web, m), wanted, (web, m))

    def test_to_the_bounds(self):
        chance = random.Random(221)
        seen = Counter()
        webs = [chance_web(chance, 40, 2 * chance.randrange(5), 20) for _ in range(6)]
        webs += [narrow_web(chance, 40, 6) for _ in range(6)] + [flat_web(chance, 44, True) for _ in range(6)]
        for web in webs:
            for prime, m in ((2, 2), (2, 4), (2, 32), (3, 9), (3, 27), (5, 25), (7, 49), (59, 59)):
                told = colours(web, m)
                self.assertEqual(told, colours_by_power(web, prime, m), (web, m))
                self.assertIs(type(told), int)
                seen[m] += told > m ** (web[2] + 1)
            self.assertEqual(colours(web, 60), colours(web, 4) * colours(web, 3) * colours(web, 5))
        self.assertTrue(min(seen.values()) > 2, seen)

    def test_names_and_order_are_nothing(self):
        chance = random.Random(222)
        for _ in range(20):
            web = narrow_web(chance, chance.randint(2, 14), 6)
            rows = list(web[0])
            chance.shuffle(rows)
            names = dict(zip(arcs_of(web), chance.sample(range(10 ** 9), len(arcs_of(web)))))
            rows = [row[2:] + row[:2] if chance.randrange(2) else row for row in rows]
            rows = tuple(tuple(names[arc] for arc in row) for row in rows)
            again = (rows, tuple(names[arc] for arc in web[1]), web[2])
            for m in (2, 3, 4, 30):
                self.assertEqual(colours(again, m), colours(web, m))


class Kept(unittest.TestCase):
    def test_at_each_corner(self):
        for web, turning in turnable(random.Random(223), 2, 6, 6):
            told = turned(web, turning)
            for m in SOME:
                self.assertEqual(colours(told, m), colours(web, m), (web, turning, m))

    def test_by_each_m(self):
        chance = random.Random(224)
        seen = Counter()
        for web in [THREES, TREFOIL] + [flat_web(chance, 12, k % 2 == 0) for k in range(30)]:
            for turning in turnings(web):
                if seen[turning[0]] < 5:
                    told = turned(web, turning)
                    self.assertEqual([colours(told, m) for m in EACH], [colours(web, m) for m in EACH], (web, turning))
                    seen[turning[0]] += 1
        self.assertEqual(seen, {"curl": 5, "slide": 5, "over": 5})


class Given(unittest.TestCase):
    def test_what_is_handed_in_stays(self):
        web, told = read("x 0 1 2 3 e 0 1 2 3"), {0: 3, 1: 5, 2: 0, 3: 5}
        self.assertIs(is_colouring(web, 7, told), True)
        self.assertEqual(told, {0: 3, 1: 5, 2: 0, 3: 5})
        self.assertEqual([colours(web, 7), colours(web, 7)], [49, 49])
        self.assertIs(is_colouring(web, 7, told), True)


if __name__ == "__main__":
    unittest.main()
