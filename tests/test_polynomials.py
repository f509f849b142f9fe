"""[2], [11]: polynomials."""

import copy
import functools
import itertools
import random
import unittest
from collections import Counter

from tanglehouse.polynomials import is_polynomial, lifted, minus, plus, times, turned_about
from tests.helper import OTHER_THINGS, PRIME, value_at

HUGE = 10 ** 60 - 1
ONE = ((0, 1),)
YES = (
    (), ((0, 1),), ((0, -1),), ((1, 1),), ((-1, 1),), ((-3, 2), (5, -7)), ((-1, 1), (0, 1), (1, 1)),
    ((-HUGE, HUGE), (HUGE, -HUGE)), ((HUGE - 1, 1), (HUGE, 1)), ((10 ** 5000, -10 ** 5000),),
    tuple((power, power + 1) for power in range(400)),
)
NO = (
    [], [(0, 1)], [[0, 1]], ([0, 1],), ((0, 1), [1, 1]), ((),), ((0,),), ((0, 1, 2),), ((0, 1), (1,)),
    ((0, 1), (1, 1, 1)), (0, 1), ((True, 1),), ((0, True),), ((False, 1),), ((0, False),), ((None, 1),), ((0, None),),
    (("0", 1),), ((0, "1"),), (("x", 1),), ((0, 0),), ((0, 1), (1, 0)), ((0, 0), (1, 1)), ((1, 1), (0, 1)),
    ((0, 1), (0, 1)), ((0, 1), (0, -1)), ((0, 1), (2, 1), (1, 1)), ((0, 1), (1, 1), (1, 1)), ((-1, 1), (-2, 1)),
    ((5, 1), (-5, 1)), (((), 1),), ((0, ()),), (([], 1),), ((0, {}),), ("01",), ("",), (None,), (0,), (True,), ({},),
    {(0, 1): True}, {0: 1}, ({0: 1},), "((0, 1),)", (((0, 1),),), ((0, (1,)),), ((0, 1), None),
)


def chance_number(chance, figures):
    """A number of at most so many figures, and not 0."""
    return chance.choice((-1, 1)) * chance.randint(1, 10 ** chance.randint(1, figures) - 1)


def chance_polynomial(chance, terms, figures):
    powers = set()
    while len(powers) < terms:
        powers.add(chance.choice((-1, 1)) * chance.randint(0, 10 ** figures - 1))
    return tuple((power, chance_number(chance, figures)) for power in sorted(powers))


def some_polynomials(chance, many):
    """Polynomials small enough that terms often cancel, and large ones."""
    told = [(), ONE, ((0, -1),), ((1, 1),), ((-1, -1),)]
    for _ in range(many):
        powers = sorted(chance.sample(range(-4, 5), chance.randint(0, 6)))
        told.append(tuple((power, chance.choice((-2, -1, 1, 2))) for power in powers))
    told.extend(chance_polynomial(chance, terms, figures) for terms, figures in ((1, 60), (7, 1), (40, 60)))
    return told


class IsPolynomial(unittest.TestCase):
    def test_polynomials(self):
        for number, thing in enumerate(YES):
            self.assertIs(is_polynomial(thing), True, number)

    def test_other_things(self):
        for number, thing in enumerate(NO + OTHER_THINGS):
            self.assertIs(is_polynomial(thing), False, number)

    def test_by_chance(self):
        chance = random.Random(31)
        parts = (-2, -1, 0, 1, 2, True, False, None, "1", (), (1,))
        told = {True: 0, False: 0}
        for _ in range(5000):
            thing = tuple((power, chance.choice((-1, 1, 2))) for power in range(chance.randrange(4)))
            if thing and chance.randrange(4):
                rows = [list(term) for term in thing]
                rows[chance.randrange(len(rows))][chance.randrange(2)] = chance.choice(parts)
                thing = tuple(tuple(row) for row in rows)
            wanted = all([type(part) for part in term] == [int, int] and term[1] for term in thing)
            powers = [term[0] for term in thing]
            wanted = wanted and powers == sorted(set(powers))
            self.assertIs(is_polynomial(thing), wanted, thing)
            told[wanted] += 1
        self.assertTrue(min(told.values()) > 1000, told)

    def test_deep_things(self):
        for wrap in (lambda thing: (thing,), lambda thing: [thing], lambda thing: {0: thing}, lambda thing: (0, thing)):
            thing = (0, 1)
            for depth in range(30):
                thing = wrap(thing)
                self.assertIs(is_polynomial(thing), thing == ((0, 1),), depth)

    def test_what_is_handed_in_is_not_changed(self):
        for thing in ([(1, 1), (0, 1)], ([0, 1], [1, 1]), {"a": [(0, 1)]}):
            kept = copy.deepcopy(thing)
            self.assertIs(is_polynomial(thing), False)
            self.assertEqual(thing, kept)


class Reckoned(unittest.TestCase):
    def test_sums(self):
        cases = [
            ((), (), ()), ((), ONE, ONE), (ONE, ONE, ((0, 2),)), (ONE, ((0, -1),), ()), (ONE, ((1, 1),), ((0, 1), (1, 1))),
            (((-2, -1), (2, -1)), ((-2, 1), (0, 5), (2, 1)), ((0, 5),)),
            (((0, 1), (3, 4)), ((-7, 2), (3, -1), (9, 9)), ((-7, 2), (0, 1), (3, 3), (9, 9))),
            (((HUGE, HUGE),), ((-HUGE, 1), (HUGE, 1)), ((-HUGE, 1), (HUGE, 10 ** 60))),
        ]
        for one, other, told in cases:
            self.assertEqual(plus(one, other), told)
            self.assertEqual(plus(other, one), told)

    def test_differences(self):
        cases = [
            ((), (), ()), ((), ONE, ((0, -1),)), (ONE, (), ONE), (ONE, ONE, ()), (ONE, ((1, 1),), ((0, 1), (1, -1))),
            (((1, 1),), ONE, ((0, -1), (1, 1))), (((0, 1), (1, 2), (2, 3)), ((0, 1), (1, 1), (2, 3)), ((1, 1),)),
            (((HUGE, -HUGE),), ((HUGE, HUGE),), ((HUGE, -2 * HUGE),)),
        ]
        for one, other, told in cases:
            self.assertEqual(minus(one, other), told)

    def test_products(self):
        cases = [
            ((), (), ()), ((), ONE, ()), (((3, 5), (4, 1)), (), ()), (ONE, ONE, ONE),
            (((0, -1),), ((0, -1),), ONE), (((1, 1),), ((-1, 1),), ONE),
            (((0, 1), (1, 1)), ((0, -1), (1, 1)), ((0, -1), (2, 1))),
            (((-2, -1), (2, -1)), ((-2, -1), (2, -1)), ((-4, 1), (0, 2), (4, 1))),
            (((-3, 2), (5, -7)), ((1, 3),), ((-2, 6), (6, -21))),
            (((0, 1), (1, 1), (2, 1)), ((0, -1), (1, 1)), ((0, -1), (3, 1))),
            (((HUGE, HUGE),), ((HUGE, -HUGE),), ((2 * HUGE, -HUGE * HUGE),)),
        ]
        for one, other, told in cases:
            self.assertEqual(times(one, other), told)
            self.assertEqual(times(other, one), told)

    def test_lifted(self):
        for many in (0, 1, -1, 7, -40, HUGE, -HUGE):
            self.assertEqual(lifted((), many), ())
            self.assertEqual(lifted(((-2, 5), (3, -1)), many), ((many - 2, 5), (many + 3, -1)))

    def test_turned_about(self):
        cases = [((), ()), (ONE, ONE), (((1, 4),), ((-1, 4),)), (((-2, 5), (0, 1), (3, -1)), ((-3, -1), (0, 1), (2, 5))),
                 (((-HUGE, 1), (HUGE, 2)), ((-HUGE, 2), (HUGE, 1)))]
        for one, told in cases:
            self.assertEqual(turned_about(one), told)

    def test_one_less_itself_is_nought(self):
        for one in some_polynomials(random.Random(32), 50):
            self.assertEqual(minus(one, one), ())
            self.assertEqual(plus(one, minus((), one)), ())
            self.assertEqual(times(one, ()), ())
            self.assertEqual(times(one, ONE), one)
            self.assertEqual(turned_about(turned_about(one)), one)
            self.assertEqual(lifted(lifted(one, 5), -5), one)

    def test_values(self):
        chance = random.Random(33)
        some = some_polynomials(chance, 200)
        for _ in range(600):
            one, other = chance.choice(some), chance.choice(some)
            self.check_values(one, other, chance)

    def test_values_of_many_terms(self):
        chance = random.Random(34)
        for terms, others in ((400, 9), (399, 1)):
            one, other = chance_polynomial(chance, terms, 60), chance_polynomial(chance, others, 60)
            self.check_values(one, other, chance)
        dense = [tuple((power, chance_number(chance, 60)) for power in range(start, start + 400)) for start in (-200, 0)]
        self.check_values(dense[0], dense[1], chance)

    def test_product_of_the_largest(self):
        chance = random.Random(36)
        one, other = chance_polynomial(chance, 400, 60), chance_polynomial(chance, 400, 60)
        numbers = Counter()
        for (power, number), (more, factor) in itertools.product(one, other):
            numbers[power + more] += number * factor
        self.assertEqual(times(one, other), tuple(sorted(item for item in numbers.items() if item[1])))

    def check_values(self, one, other, chance):
        x = chance.randrange(2, PRIME)
        many = chance.randint(-50, 50)
        first, second = value_at(one, x), value_at(other, x)
        cases = [
            (plus(one, other), first + second), (minus(one, other), first - second), (times(one, other), first * second),
            (lifted(one, many), first * pow(x, many, PRIME)), (turned_about(one), value_at(one, pow(x, -1, PRIME))),
        ]
        for told, wanted in cases:
            self.assertIs(is_polynomial(told), True)
            self.assertEqual(value_at(told, x), wanted % PRIME)

    def test_the_same_in_whatever_order(self):
        chance = random.Random(35)
        for _ in range(60):
            some = chance.sample(some_polynomials(chance, 12), 5)
            for reckon in (plus, times):
                told = functools.reduce(reckon, some)
                chance.shuffle(some)
                self.assertEqual(functools.reduce(reckon, some), told)
                self.assertEqual(reckon(some[0], functools.reduce(reckon, some[1:])), told)
            self.assertEqual(times(some[0], plus(some[1], some[2])), plus(times(some[0], some[1]), times(some[0], some[2])))


if __name__ == "__main__":
    unittest.main()
