"""[2], [3], [15], [16], [17], [18]: the sums of a web part by part."""

import copy
import random
import unittest
from collections import Counter

from tanglehouse.errors import TooWide
from tanglehouse.polynomials import is_polynomial, lifted, minus, times, turned_about
from tanglehouse.stores import check_narrow, fronts, order_of, stores, sums
from tanglehouse.ways import plain_sums
from tanglehouse.webs import check_web, mirrored, places
from tests.helper import CURL, FIGURE_EIGHT, HOPF, KNOWN, LEVEL, NOTHING, PRIME, SINGLE, TORUS, TREFOIL
from tests.helper import as_told, chance_web, flat_web, narrow_web, refusal, refused, some_webs, sums_again, twisted_row
from tests.helper import value_at

RING = ((-2, -1), (2, -1))
LEVEL_ENDS = ((0, 3), (1, 2))
UPRIGHT_ENDS = ((0, 1), (2, 3))
# Of each web the crossings as they are taken, and the fronts.
TAKEN = (
    (NOTHING, [], []),
    (((), (5, 5), 3), [], []),
    (CURL, [0], [[]]),
    (TORUS, [0], [[]]),
    ((((9, 4, 9, 2),), (2, 4), 0), [0], [[2, 4]]),
    (SINGLE, [0], [[0, 1, 2, 3]]),
    (HOPF, [0, 1], [[1, 2, 3, 4], []]),
    (TREFOIL, [0, 1, 2], [[1, 2, 4, 5], [2, 3, 5, 6], []]),
    ((((0, 1, 2, 3), (4, 4, 0, 1), (5, 5, 2, 3)), (), 0), [1, 0, 2], [[0, 1], [2, 3], []]),
    ((((5, 5, 2, 3), (4, 4, 0, 1), (0, 1, 2, 3)), (), 0), [0, 2, 1], [[2, 3], [0, 1], []]),
    # Behind 0 four arcs are open, then behind 1, 2 or 3 six, six or four.
    ((((0, 1, 2, 3), (0, 4, 5, 6), (4, 5, 6, 7), (1, 2, 8, 9)), (3, 7, 8, 9), 0), [0, 3, 1, 2],
     [[0, 1, 2, 3], [0, 3, 8, 9], [3, 4, 5, 6, 8, 9], [3, 7, 8, 9]]),
    # An arc that ends on the rim stays open; one between two ends is never open.
    ((((30, 20, 10, 40), (7, 7, 6, 50)), (10, 20, 30, 40, 6, 8, 50, 8), 0), [1, 0], [[6, 50], [6, 10, 20, 30, 40, 50]]),
    ((((0, 1, 2, 3), (4, 5, 6, 7)), (0, 1, 2, 3, 4, 5, 6, 7), 0), [0, 1], [[0, 1, 2, 3], [0, 1, 2, 3, 4, 5, 6, 7]]),
)
APART = tuple(tuple(range(4 * k, 4 * k + 4)) for k in range(5))


def taken_again(web):
    """The crossings as they are taken, each with its front, by counting taken places."""
    spots = [(arc, [place[0] for place in pair]) for arc, pair in places(web).items()]
    rows, done = [], []
    while len(done) < len(web[0]):
        found = []
        for k in range(len(web[0])):
            if k not in done:
                there = done + [k]
                arcs = sorted(arc for arc, pair in spots if sum(spot in there for spot in pair) == 1)
                found.append((len(arcs), k, arcs))
        done.append(min(found)[1])
        rows.append(min(found)[1:])
    return rows


def stores_again(web):
    """The stores, by the plain sums of what is taken, its open arcs as its ends."""
    rows, done = [], []
    for k, front in taken_again(web):
        done.append(web[0][k])
        store = {}
        for joining, polynomial in as_told(sums_again((tuple(done), tuple(front), 0))).items():
            store[tuple((front[one], front[other]) for one, other in joining)] = polynomial
        rows.append((k, store))
    return rows


def too_wide(web):
    """What a web must be refused with, or None."""
    wide = [k for k, front in taken_again(web) if len(front) > 8]
    return (TooWide, {"crossing": wide[0]}) if wide else None


def most_of(arcs):
    product = 1
    for odd in range(1, arcs, 2):
        product *= odd
    return product


def with_other_names(chance, web):
    names = dict(zip(places(web), chance.sample(range(10 ** 9), len(places(web)))))
    rows = tuple(tuple(names[arc] for arc in row) for row in web[0])
    return (rows, tuple(names[arc] for arc in web[1]), web[2])


def from_third_places(chance, web):
    return (tuple(chance.choice((row, row[2:] + row[:2])) for row in web[0]), web[1], web[2])


def in_another_order(chance, web):
    return (tuple(chance.sample(web[0], len(web[0]))), web[1], web[2])


def all_turned_about(told):
    return {joining: turned_about(polynomial) for joining, polynomial in told.items()}


def narrow_webs(chance, many, crossings):
    """Webs, also such that aren't flat, none of which is too wide."""
    told = []
    while len(told) < many:
        web = narrow_web(chance, crossings, 8) if chance.randrange(3) else flat_web(chance, crossings, chance.randrange(2))
        if too_wide(web) is None:
            told.append((web[0], web[1], web[2] + chance.choice((0, 0, 1, 20))))
    return told


def loops(web):
    """How many strands close, where each goes straight on at crossings."""
    arcs = {arc: arc for arc in places(web)}

    def head(arc):
        while arcs[arc] != arc:
            arc = arcs[arc]
        return arc

    for row in web[0]:
        arcs[head(row[0])] = head(row[2])
        arcs[head(row[1])] = head(row[3])
    return web[2] + sum(head(arc) == arc for arc in arcs)


def sixth_root():
    """A number by PRIME at which -x^-2 - x^2 is 1, and x + x^-1 too."""
    x = next(x for x in (pow(base, (PRIME - 1) // 6, PRIME) for base in range(2, 99)) if (x * x - x + 1) % PRIME == 0)
    assert value_at(RING, x) == 1
    return x


class Taken(unittest.TestCase):
    def test_known(self):
        for web, order, told in TAKEN:
            self.assertIsNone(check_web(web))
            self.assertEqual(order_of(web), order, web)
            self.assertEqual(fronts(web), told, web)

    def test_of_several_the_least_number(self):
        ring = tuple((2 * k, 2 * k + 1, 2 * (k + 1) % 12, (2 * k + 3) % 12) for k in range(6))
        self.assertEqual(order_of((ring, (), 0)), [0, 1, 2, 3, 4, 5])
        for turn in range(1, 6):
            self.assertEqual(order_of((ring[turn:] + ring[:turn], (), 0)), [0, 1, 2, 3, 4, 5])
        self.assertEqual(order_of((APART, tuple(range(20)), 0)), [0, 1, 2, 3, 4])
        self.assertEqual(order_of((ring[0:1] + ring[2:3] + ring[4:5] + ring[1:2] + ring[3:4] + ring[5:6], (), 0)),
                         [0, 3, 1, 4, 2, 5])

    def test_as_by_counting(self):
        chance = random.Random(61)
        webs = some_webs(chance, 150) + narrow_webs(chance, 30, 20)
        webs += [chance_web(chance, crossings, ends, 20) for crossings, ends in ((13, 0), (25, 8), (40, 0), (40, 8))]
        for web in webs:
            again = taken_again(web)
            self.assertEqual(order_of(web), [k for k, _ in again])
            self.assertEqual(fronts(web), [front for _, front in again])

    def test_also_where_it_is_too_wide(self):
        web = (APART[:3], tuple(range(12)), 0)
        self.assertEqual(order_of(web), [0, 1, 2])
        self.assertEqual([len(front) for front in fronts(web)], [4, 8, 12])
        web = chance_web(random.Random(62), 40, 8, 0)
        self.assertEqual(sorted(order_of(web)), list(range(40)))
        self.assertGreater(max(len(front) for front in fronts(web)), 8)
        self.assertEqual(fronts(web)[-1], sorted(web[1]))

    def test_what_is_told_is_the_askers_own(self):
        for ask in (order_of, fronts):
            told = ask(TREFOIL)
            kept = copy.deepcopy(told)
            self.assertIs(type(told), list)
            if ask == fronts:
                told[0].clear()
                told[1].append(7)
            told.pop()
            self.assertEqual(ask(TREFOIL), kept)


class CheckNarrow(unittest.TestCase):
    def test_eight_are_narrow_and_more_are_not(self):
        eight = (APART[:2], tuple(range(8)), 0)
        self.assertEqual(len(fronts(eight)[-1]), 8)
        self.assertIsNone(check_narrow(eight))
        self.assertEqual(refused(check_narrow, (APART[:3], tuple(range(12)), 0)), (TooWide, {"crossing": 2}))
        self.assertEqual(refused(check_narrow, (APART, tuple(range(20)), 0)), (TooWide, {"crossing": 2}))
        for web in KNOWN:
            self.assertIsNone(check_narrow(web))

    def test_ten(self):
        # Open arcs are even in number, as four places come with each crossing: ten are the fewest above eight.
        rows = ((0, 1, 2, 3), (3, 4, 5, 6), (7, 8, 9, 10))
        web = (rows[2:] + rows[:2], (0, 1, 2, 4, 5, 6, 7, 8, 9, 10), 0)
        self.assertEqual([len(front) for front in fronts(web)], [4, 8, 10])
        self.assertEqual(refused(check_narrow, web), (TooWide, {"crossing": 2}))

    def test_the_first_too_wide_front_is_told(self):
        chance = random.Random(63)
        seen = Counter()
        for _ in range(300):
            web = chance_web(chance, chance.randint(8, 22), chance.choice((0, 2, 4, 8)), chance.randrange(3))
            wanted = too_wide(web)
            for ask in (check_narrow, stores, sums):
                if wanted or ask == check_narrow:
                    self.assertEqual(refused(ask, web), wanted)
            widths = [len(front) for front in fronts(web)]
            seen[max(widths)] += 1
            if wanted:
                self.assertEqual(wanted[1]["crossing"], order_of(web)[[width > 8 for width in widths].index(True)])
                self.assertIsInstance(refusal(sums, web), ValueError)
        self.assertTrue(min(seen[8], seen[10], seen[12]) > 10, seen)

    def test_a_crossing_of_another_number_than_its_turn(self):
        chance = random.Random(64)
        other = 0
        for _ in range(30):
            web = chance_web(chance, 30, 4, 0)
            error = refusal(check_narrow, web)
            other += [len(front) > 8 for front in fronts(web)].index(True) != error.crossing
            self.assertEqual(vars(error), {"crossing": too_wide(web)[1]["crossing"]})
        self.assertGreater(other, 20)


class Stores(unittest.TestCase):
    def test_known(self):
        one = ((0, 1),)
        self.assertEqual(stores(NOTHING), [])
        self.assertEqual(stores(((), (4, 4), 5)), [])
        self.assertEqual(stores(CURL), [(0, {(): ((1, 1), (5, 1))})])
        self.assertEqual(stores((((7, 9, 2, 5),), (2, 9, 5, 7), 3)), [(0, {((2, 5), (7, 9)): ((1, 1),),
                                                                        ((2, 9), (5, 7)): ((-1, 1),)})])
        self.assertEqual(stores((((3, 3, 8, 1),), (1, 8), 3)), [(0, {((1, 8),): ((3, -1),)})])
        slide = (((0, 1, 2, 3), (2, 4, 5, 3)), (0, 1, 4, 5), 2)
        self.assertEqual(stores(slide), [(0, {((0, 1), (2, 3)): ((1, 1),), ((0, 3), (1, 2)): ((-1, 1),)}),
                                         (1, {((0, 5), (1, 4)): one})])

    def test_as_by_plain_sums(self):
        chance = random.Random(65)
        webs = [web for web in some_webs(chance, 60) if len(web[0]) < 7 and too_wide(web) is None]
        for web in webs + narrow_webs(chance, 40, 6) + list(web for web, _, _ in TAKEN):
            self.assertEqual(stores(web), stores_again(web), web)

    def test_no_more_than_told(self):
        chance = random.Random(66)
        widest = Counter()
        for web in narrow_webs(chance, 25, 24):
            for (k, store), front in zip(stores(web), fronts(web)):
                self.assertLessEqual(len(store), most_of(len(front)))
                widest[len(front)] = max(widest[len(front)], len(store))
                for joining, polynomial in store.items():
                    self.assertTrue(is_polynomial(polynomial) and polynomial)
                    self.assertEqual(sorted(arc for pair in joining for arc in pair), front)
                    self.assertEqual(list(joining), sorted(joining))
                    self.assertTrue(all(one < other for one, other in joining))
        self.assertEqual([most_of(many) for many in (0, 2, 4, 6, 8)], [1, 1, 3, 15, 105])
        self.assertEqual([widest[many] for many in (2, 4, 6)], [1, 3, 15])
        self.assertGreater(widest[8], 60)

    def test_kinds(self):
        told = stores(FIGURE_EIGHT)
        self.assertIs(type(told), list)
        self.assertEqual([k for k, _ in told], order_of(FIGURE_EIGHT))
        for row in told:
            self.assertEqual([type(row), type(row[0]), type(row[1])], [tuple, int, dict])
            for joining in row[1]:
                self.assertEqual({type(joining)} | {type(pair) for pair in joining}, {tuple})

    def test_the_own_rings_are_not_counted(self):
        for web in KNOWN:
            self.assertEqual(stores((web[0], web[1], 20)), stores(web))

    def test_what_is_told_is_the_askers_own(self):
        for web in (TREFOIL, SINGLE, LEVEL):
            for ask in (stores, sums):
                told = ask(web)
                kept = copy.deepcopy(told)
                for row in told if ask == stores else ():
                    row[1].clear()
                told.clear()
                self.assertEqual(ask(web), kept)


class Sums(unittest.TestCase):
    def test_as_the_plain_ones(self):
        chance = random.Random(67)
        many = 0
        webs = some_webs(chance, 150) + [chance_web(chance, 10, ends, 20) for ends in (0, 2, 4, 8) for _ in range(6)]
        webs += narrow_webs(chance, 20, 10) + [web for web, _, _ in TAKEN]
        for web in webs:
            if too_wide(web) is None and len(web[0]) < 11:
                self.assertEqual(sums(web), plain_sums(web), web)
                many += 1
            else:
                self.assertEqual(refused(sums, web), too_wide(web))
        self.assertGreater(many, 150)

    def test_as_by_walking(self):
        for web in narrow_webs(random.Random(68), 20, 7) + list(KNOWN):
            self.assertEqual(sums(web), as_told(sums_again(web)), web)

    def test_without_crossings(self):
        self.assertEqual(sums(NOTHING), {(): ((0, 1),)})
        self.assertEqual(sums(((), (), 2)), {(): ((-4, 1), (0, 2), (4, 1))})
        self.assertEqual(sums(((), (3, 1, 3, 2, 2, 1), 1)), {((0, 2), (1, 5), (3, 4)): RING})

    def test_half_twists_to_the_bounds(self):
        level, upright = ((0, 1),), ()
        for many in range(41):
            for web, turn in ((twisted_row(many), lambda one: one), (mirrored(twisted_row(many)), turned_about)):
                wanted = {LEVEL_ENDS: turn(level), UPRIGHT_ENDS: turn(upright)}
                self.assertEqual(sums(web), {joining: one for joining, one in wanted.items() if one})
            rings = sums((twisted_row(many)[0], twisted_row(many)[1], 20))[LEVEL_ENDS]
            wanted = level
            for _ in range(20):
                wanted = times(wanted, RING)
            self.assertEqual(rings, wanted)
            level, upright = lifted(level, -1), minus(lifted(level, 1), lifted(upright, 3))

    def test_values_to_the_bounds(self):
        x = sixth_root()
        webs = narrow_webs(random.Random(69), 15, 40)
        self.assertEqual(max(len(web[0]) for web in webs), 40)
        for web in webs:
            # With each ring, and each crossing's two ways together, counting for 1, all ways come to 1.
            self.assertEqual(sum(value_at(polynomial, x) for polynomial in sums(web).values()) % PRIME, 1)

    def test_values_of_diagrams_to_the_bounds(self):
        chance = random.Random(70)
        webs = [flat_web(chance, 50, True) for _ in range(15)]
        sizes = []
        for web in webs + [chance_web(chance, 9, 0, 1) for _ in range(15)]:
            if too_wide(web) is None:
                sizes.append(len(web[0]))
                # At 1 a crossing counts for its strands going straight on, less its sign.
                told = sums(web)[()]
                self.assertEqual(sum(number for _, number in told), (-1) ** len(web[0]) * (-2) ** loops(web))
        self.assertTrue(len(sizes) > 20 and max(sizes) >= 30, sizes)

    def test_eight_ends_twenty_rings_forty_crossings(self):
        rows = tuple((4 * (k - 1) + 2, 4 * (k - 1) + 3, 4 * k + 3, 4 * k + 2) for k in range(1, 39))
        web = (((0, 1, 3, 2),) + rows + ((200, 201, 202, 203),), (0, 1, 155, 154, 200, 201, 202, 203), 20)
        self.assertIsNone(check_web(web))
        self.assertEqual((len(web[0]), len(web[1])), (40, 8))
        row, single = sums((twisted_row(39)[0], twisted_row(39)[1], 20)), sums(SINGLE)
        wanted = {one + tuple((i + 4, j + 4) for i, j in other): times(row[one], single[other])
                  for one in row for other in single}
        self.assertEqual(sums(web), wanted)


class Alike(unittest.TestCase):
    def webs(self, seed):
        chance = random.Random(seed)
        webs = some_webs(chance, 40) + narrow_webs(chance, 12, 12) + narrow_webs(chance, 4, 40)
        return chance, webs + [chance_web(chance, many, 4, 1) for many in (14, 18, 22, 26, 30, 40)]

    def test_other_names_and_third_places(self):
        chance, webs = self.webs(71)
        wide = 0
        for web in webs:
            told = refused(sums, web) or sums(web)
            wide += type(told) is tuple
            for change in (with_other_names, from_third_places):
                other = change(chance, web)
                self.assertIsNone(check_web(other))
                self.assertEqual(refused(sums, other) or sums(other), told, web)
                self.assertEqual(refused(stores, other), refused(stores, web))
        self.assertGreater(wide, 3)

    def test_crossings_in_another_order(self):
        chance, webs = self.webs(72)
        unlike = 0
        for web in webs:
            other = in_another_order(chance, web)
            if too_wide(web) is None and too_wide(other) is None:
                self.assertEqual(sums(other), sums(web), web)
                unlike += [web[0][k] for k in order_of(web)] != [other[0][k] for k in order_of(other)]
        self.assertGreater(unlike, 20)

    def test_mirrored(self):
        for web in self.webs(73)[1]:
            if too_wide(web) is None:
                self.assertEqual(sums(mirrored(web)), all_turned_about(sums(web)), web)
            else:
                self.assertEqual(refused(sums, mirrored(web)), too_wide(web))


if __name__ == "__main__":
    unittest.main()
