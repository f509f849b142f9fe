"""[2], [4], [6]: webs, their places and the names of their arcs."""

import copy
import random
import unittest
from collections import Counter

from tanglehouse.errors import NoWeb, Odd
from tanglehouse.webs import alike_webs, check_web, mirrored, named_anew, places, shifted
from tests.helper import CURL, FIGURE_EIGHT, HOPF, KNOWN, LEVEL, NOTHING, SINGLE, TREFOIL, UPRIGHT
from tests.helper import chance_web, refusal, refused, some_webs

HUGE = 10 ** 5000


def counts(thing):
    return type(thing) is int and thing >= 0


def expected(thing):
    """What check_web must refuse a thing with, reckoned by another way."""
    if type(thing) is not tuple or [type(part) for part in thing] != [tuple, tuple, int] or thing[2] < 0:
        return (NoWeb, {})
    if any(type(crossing) is not tuple or len(crossing) != 4 for crossing in thing[0]):
        return (NoWeb, {})
    arcs = [arc for crossing in thing[0] for arc in crossing] + list(thing[1])
    if not all(counts(arc) for arc in arcs):
        return (NoWeb, {})
    wrong = sorted(arc for arc, many in Counter(arcs).items() if many != 2)
    return (Odd, {"arc": wrong[0]}) if wrong else None


class CheckWeb(unittest.TestCase):
    def test_webs(self):
        for web in some_webs(random.Random(1), 100):
            self.assertIsNone(check_web(web))
        for web in (((), (), HUGE), ((), (HUGE, HUGE), 0), (((HUGE, 0, 0, HUGE),), (), 0)):
            self.assertIsNone(check_web(web))

    def test_larger_webs_than_the_bounds(self):
        self.assertIsNone(check_web(chance_web(random.Random(2), 400, 100, 10 ** 12)))

    def test_things_that_are_not_made_so(self):
        ring = (0, 0, 1, 1)
        things = [
            None, True, False, 0, 1, -1, HUGE, -HUGE, "", "x 0 0 1 1", [], (), {}, {"a": 1}, [[], [], 0],
            ((), ()), ((), (), 0, 0), ((), (), 0, ()), [(), (), 0], {0: (), 1: (), 2: 0},
            ([], (), 0), ({}, (), 0), ("", (), 0), (None, (), 0), (0, (), 0), (False, (), 0),
            ((), [], 0), ((), {}, 0), ((), "", 0), ((), None, 0), ((), 0, 0),
            ((), (), -1), ((), (), True), ((), (), False), ((), (), None), ((), (), "0"), ((), (), ()), ((), (), -HUGE),
            ((ring[:3],), (), 0), ((ring + (2,),), (), 0), (((),), (), 0), ((list(ring),), (), 0), (ring, (), 0),
            ((ring, list(ring)), (), 0), (("0011",), (), 0), ((None,), (), 0), (({0: 0},), (), 0), ([ring], (), 0),
            (((0, 0, 1, -1),), (), 0), (((-1, -1, 1, 1),), (), 0), (((0, 0, True, 1),), (), 0),
            (((0, 0, True, True),), (), 0), (((False, False, 1, 1),), (), 0), (((0, 0, "1", "1"),), (), 0),
            (((0, 0, None, None),), (), 0), (((0, 0, (1,), (1,)),), (), 0), (((0, 0, [1], [1]),), (), 0),
            ((), (-1, -1), 0), ((), (True, True), 0), ((), (False, 0), 0), ((), ("0", "0"), 0), ((), (None, None), 0),
            ((), ([], []), 0), ((), ({}, {}), 0), ((), ((0, 0),), 0), ((), (-HUGE, -HUGE), 0),
        ]
        # Told by its number: Python refuses to write the huge ones out.
        for number, thing in enumerate(things):
            self.assertEqual(refused(check_web, thing), (NoWeb, {}), number)

    def test_odd_tells_the_least_arc_that_does_not_stand_at_two_places(self):
        cases = [
            (((), (0,), 0), 0),
            (((), (5, 5, 5), 0), 5),
            (((), (5, 5, 5, 5), 0), 5),
            (((), (9, 4, 4), 0), 9),
            (((), (9, 8, 9, 7, 9), 3), 7),
            ((((0, 0, 0, 0),), (), 0), 0),
            ((((1, 1, 1, 2),), (), 0), 1),
            ((((2, 1, 1, 1),), (0, 0), 0), 1),
            ((((3, 3, 3, 2),), (), 0), 2),
            ((((0, 1, 2, 3),), (0, 1, 2), 0), 3),
            ((((0, 1, 2, 3),), (3, 2, 1, 0, 0), 0), 0),
            ((((0, 0, 1, 1), (0, 0, 2, 2)), (), 0), 0),
            ((((0, 0, 1, 1), (7, 3, 7, 3)), (4, 4, 3), 0), 3),
            (((), (HUGE,), 0), HUGE),
            (((), (HUGE + 1, HUGE), 0), HUGE),
        ]
        for number, (thing, arc) in enumerate(cases):
            self.assertEqual(refused(check_web, thing), (Odd, {"arc": arc}), number)

    def test_no_web_goes_ahead_of_odd(self):
        for thing in [((), (0,), -1), ((), (0,), True), ((), (0, -1), 0), (((0, 1, 2, 3), ()), (), 0), ((), (0, "a"), 0)]:
            self.assertEqual(refused(check_web, thing), (NoWeb, {}), repr(thing))

    def test_deep_things(self):
        for wrap in (lambda thing: (thing,), lambda thing: [thing], lambda thing: {0: thing}):
            thing = ((), (), 0)
            for _ in range(30):
                thing = wrap(thing)
                self.assertEqual(refused(check_web, thing), (NoWeb, {}))
                self.assertEqual(refused(check_web, ((), (), thing)), (NoWeb, {}))
                self.assertEqual(refused(check_web, ((thing,), (), 0)), (NoWeb, {}))

    def test_webs_with_one_part_exchanged(self):
        chance = random.Random(3)
        parts = [0, 1, 2, 3, -1, True, False, None, "", "1", (), [], {}, (0,), (1, 1), [1, 1], (0, 0, 1, 1), HUGE]
        seen = Counter()
        for number in range(4000):
            web = chance_web(chance, chance.randrange(3), 2 * chance.randrange(3), chance.randrange(3), 8)
            rows = [list(web[0]), list(web[1]), web[2]]
            spot = chance.randrange(5)
            part = chance.choice(parts)
            if spot == 0 and rows[0]:
                crossing = list(chance.choice(rows[0]))
                crossing[chance.randrange(4)] = part
                rows[0][chance.randrange(len(rows[0]))] = tuple(crossing)
            elif spot == 1 and rows[1]:
                rows[1][chance.randrange(len(rows[1]))] = part
            elif spot == 2:
                rows[2] = part
            elif spot == 3:
                rows[0].append(part)
            thing = (tuple(rows[0]), tuple(rows[1]), rows[2])
            wanted = expected(thing)
            self.assertEqual(refused(check_web, thing), wanted, number)
            seen[wanted and wanted[0]] += 1
        self.assertTrue(min(seen[None], seen[NoWeb], seen[Odd]) > 100, seen)

    def test_what_is_handed_in_is_not_changed(self):
        for thing in [[[], [1, 2], {"a": [3]}], ([[0, 0, 1, 1]], [], 0), {"web": [(), (), 0]}]:
            kept = copy.deepcopy(thing)
            self.assertEqual(refused(check_web, thing), (NoWeb, {}))
            self.assertEqual(thing, kept)

    def test_a_refusal_bears_its_field_alone(self):
        self.assertEqual(vars(refusal(check_web, ((), (3,), 0))), {"arc": 3})


class Places(unittest.TestCase):
    def test_by_arcs_as_they_first_come(self):
        web = (((7, 3, 7, 5), (3, 9, 8, 8)), (5, 2, 9, 2), 4)
        told = places(web)
        self.assertEqual(list(told.items()), [
            (7, [(0, 0), (0, 2)]), (3, [(0, 1), (1, 0)]), (5, [(0, 3), (-1, 0)]),
            (9, [(1, 1), (-1, 2)]), (8, [(1, 2), (1, 3)]), (2, [(-1, 1), (-1, 3)]),
        ])

    def test_kinds(self):
        told = places(SINGLE)
        self.assertIs(type(told), dict)
        for pair in told.values():
            self.assertIs(type(pair), list)
            self.assertEqual([type(place) for place in pair], [tuple, tuple])

    def test_without_anything(self):
        self.assertEqual(places(NOTHING), {})
        self.assertEqual(places(((), (), 5)), {})

    def test_ends_alone(self):
        self.assertEqual(places(((), (6, 2, 2, 6), 1)), {6: [(-1, 0), (-1, 3)], 2: [(-1, 1), (-1, 2)]})

    def test_each_place_once_where_its_arc_stands(self):
        for web in some_webs(random.Random(4), 100):
            there = {(k, j): arc for k, row in enumerate(web[0]) for j, arc in enumerate(row)}
            there.update({(-1, j): arc for j, arc in enumerate(web[1])})
            told = places(web)
            self.assertEqual(list(told), list(dict.fromkeys(there.values())))
            for arc, pair in told.items():
                self.assertEqual(pair, [place for place, stands in there.items() if stands == arc])

    def test_what_is_told_is_the_askers_own(self):
        kept = copy.deepcopy(places(TREFOIL))
        told = places(TREFOIL)
        told[1].append((9, 9))
        told[2].clear()
        told.pop(3)
        self.assertEqual(places(TREFOIL), kept)


class NamedAnew(unittest.TestCase):
    def test_in_the_order_in_which_they_first_come(self):
        self.assertEqual(
            named_anew((((7, 3, 7, 5), (3, 9, 8, 8)), (5, 2, 9, 2), 4)),
            (((0, 1, 0, 2), (1, 3, 4, 4)), (2, 5, 3, 5), 4),
        )

    def test_webs_without_crossings_ends_or_anything(self):
        self.assertEqual(named_anew(NOTHING), NOTHING)
        self.assertEqual(named_anew(((), (), 3)), ((), (), 3))
        self.assertEqual(named_anew(((), (5, 0, 5, 0), 0)), ((), (0, 1, 0, 1), 0))
        self.assertEqual(named_anew((((9, 9, 8, 8),), (), 2)), (((0, 0, 1, 1),), (), 2))

    def test_named_anew_again_is_the_same(self):
        for web in some_webs(random.Random(5), 100):
            anew = named_anew(web)
            self.assertIsNone(check_web(anew))
            self.assertEqual(list(places(anew)), list(range(len(places(web)))))
            self.assertEqual(list(places(anew).values()), list(places(web).values()))
            self.assertEqual(named_anew(anew), anew)


class AlikeWebs(unittest.TestCase):
    def test_other_names(self):
        chance = random.Random(6)
        for web in some_webs(chance, 100):
            names = dict(zip(places(web), chance.sample(range(1000), len(places(web)))))
            rows = tuple(tuple(names[arc] for arc in row) for row in web[0])
            other = (rows, tuple(names[arc] for arc in web[1]), web[2])
            self.assertIs(alike_webs(web, other), True)
            self.assertIs(alike_webs(other, web), True)

    def test_unlike_webs(self):
        self.assertIs(alike_webs(LEVEL, UPRIGHT), False)
        self.assertIs(alike_webs(((), (), 0), ((), (), 1)), False)
        self.assertIs(alike_webs(NOTHING, LEVEL), False)
        self.assertIs(alike_webs(TREFOIL, mirrored(TREFOIL)), False)
        self.assertIs(alike_webs((((0, 0, 1, 1),), (), 0), (((0, 1, 1, 0),), (), 0)), False)
        self.assertIs(alike_webs(SINGLE, (((0, 1, 2, 3),), (1, 2, 3, 0), 0)), False)

    def test_a_crossing_told_from_its_third_place_is_another_web(self):
        self.assertIs(alike_webs(HOPF, (((3, 2, 4, 1), HOPF[0][1]), (), 0)), False)

    def test_crossings_in_another_order_are_another_web(self):
        web = (((0, 0, 1, 2), (1, 2, 3, 3)), (), 0)
        self.assertIs(alike_webs(web, ((web[0][1], web[0][0]), (), 0)), False)

    def test_known_webs_are_unlike_each_other(self):
        for one in KNOWN:
            for other in KNOWN:
                self.assertIs(alike_webs(one, other), one == other)


class Mirrored(unittest.TestCase):
    def test_each_crossing_from_its_second_place_on(self):
        self.assertEqual(mirrored(TREFOIL), (((5, 2, 4, 1), (1, 4, 6, 3), (3, 6, 2, 5)), (), 0))
        self.assertEqual(mirrored(SINGLE), (((1, 2, 3, 0),), (0, 1, 2, 3), 0))

    def test_webs_without_crossings_stay(self):
        for web in (NOTHING, LEVEL, UPRIGHT, ((), (), 7)):
            self.assertEqual(mirrored(web), web)

    def test_four_times_is_the_same(self):
        for web in some_webs(random.Random(7), 100):
            self.assertIsNone(check_web(mirrored(web)))
            self.assertEqual(mirrored(web)[1:], web[1:])
            self.assertEqual(mirrored(mirrored(mirrored(mirrored(web)))), web)
        self.assertNotEqual(mirrored(mirrored(FIGURE_EIGHT)), FIGURE_EIGHT)
        self.assertNotEqual(mirrored(CURL), CURL)


class Shifted(unittest.TestCase):
    def test_ends_from_this_number_on(self):
        web = (((4, 1, 2, 3),), (1, 2, 3, 4), 2)
        ends = [(1, 2, 3, 4), (2, 3, 4, 1), (3, 4, 1, 2), (4, 1, 2, 3), (1, 2, 3, 4)]
        for many in range(5):
            self.assertEqual(shifted(web, many), (web[0], ends[many], 2))

    def test_by_nought_and_by_all_is_the_same(self):
        for web in some_webs(random.Random(8), 100):
            self.assertEqual(shifted(web, 0), web)
            self.assertEqual(shifted(web, len(web[1])), web)

    def test_back_again(self):
        for web in some_webs(random.Random(9), 50):
            for many in range(len(web[1]) + 1):
                self.assertIsNone(check_web(shifted(web, many)))
                self.assertEqual(shifted(shifted(web, many), len(web[1]) - many), web)

    def test_without_ends(self):
        self.assertEqual(shifted(NOTHING, 0), NOTHING)
        self.assertEqual(shifted(TREFOIL, 0), TREFOIL)


if __name__ == "__main__":
    unittest.main()
