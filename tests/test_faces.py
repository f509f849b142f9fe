"""[2], [3], [8], [9], [10]: darts, faces, pieces, holes."""

import copy
import random
import unittest

from tanglehouse.errors import NotFlat
from tanglehouse.faces import behind, check_flat, faces, holes, pieces, twin
from tanglehouse.webs import mirrored, named_anew, places, shifted
from tests.helper import CROSSED_ENDS, CURL, FIGURE_EIGHT, HOPF, LEVEL, NOTHING, SINGLE, TORUS, TREFOIL, UPRIGHT
from tests.helper import chance_web, flat_web, refused, some_webs

FLAT = (NOTHING, TREFOIL, FIGURE_EIGHT, HOPF, CURL, SINGLE, LEVEL, UPRIGHT, ((), (0, 0), 0), ((), (), 3))
# Of each its number of holes.
HOLED = (
    (TORUS, 1),
    (CROSSED_ENDS, 1),
    ((((0, 1, 0, 1), (2, 3, 2, 3)), (), 0), 2),
    ((((0, 1, 0, 1),), (2, 3, 2, 3), 5), 2),
    ((((0, 1, 2, 3),), (0, 2, 1, 3), 0), 1),
    ((((0, 1, 2, 3),), (3, 2, 1, 0), 0), 1),
    ((((0, 1, 2, 3), (0, 1, 2, 3)), (), 0), 1),
    (((), (0, 1, 2, 0, 1, 2), 0), 1),
    (((), (0, 1, 2, 3, 0, 1, 2, 3), 0), 2),
)


def darts_of(web):
    return [place for pair in places(web).values() for place in pair]


def joined(members, pairs):
    """The classes into which pairs join members, as a list of sets."""
    classes = {member: {member} for member in members}
    for one, other in pairs:
        if classes[one] is not classes[other]:
            both = classes[one] | classes[other]
            for member in both:
                classes[member] = both
    return list({id(group): group for group in classes.values()}.values())


def sides(web, place):
    """The corners left and right of the way out from a place, as it is seen in the picture of [5]."""
    k, j = place
    if k == -1:
        # Looking in from the rim, what goes on leftwards round it lies at the right hand.
        return (k, (j - 1) % len(web[1])), (k, j)
    return (k, j), (k, (j - 1) % 4)


def corner_count(web):
    """How many faces there are, by gluing corners along both sides of each arc."""
    pairs = []
    for one, other in places(web).values():
        pairs.append((sides(web, one)[0], sides(web, other)[1]))
        pairs.append((sides(web, one)[1], sides(web, other)[0]))
    return len(joined(darts_of(web), pairs))


def numbers_of(web):
    return ([-1] if web[1] else []) + list(range(len(web[0])))


def pieces_again(web):
    pairs = [(one[0], other[0]) for one, other in places(web).values()]
    return sorted(sorted(group) for group in joined(numbers_of(web), pairs))


class Darts(unittest.TestCase):
    def test_twin(self):
        web = (((7, 3, 7, 5), (3, 9, 8, 8)), (5, 2, 9, 2), 4)
        pairs = [((0, 0), (0, 2)), ((0, 1), (1, 0)), ((0, 3), (-1, 0)), ((1, 1), (-1, 2)), ((1, 2), (1, 3)),
                 ((-1, 1), (-1, 3))]
        for one, other in pairs:
            self.assertEqual(twin(web, one), other)
            self.assertEqual(twin(web, other), one)

    def test_behind_at_crossings(self):
        web = (((0, 1, 2, 3), (0, 1, 2, 3)), (), 0)
        for k in range(2):
            self.assertEqual([behind(web, (k, j)) for j in range(4)], [(1 - k, j) for j in (3, 0, 1, 2)])

    def test_behind_at_the_rim(self):
        self.assertEqual([behind(SINGLE, (0, j)) for j in range(4)], [(-1, 1), (-1, 2), (-1, 3), (-1, 0)])
        self.assertEqual([behind(SINGLE, (-1, j)) for j in range(4)], [(0, 3), (0, 0), (0, 1), (0, 2)])
        self.assertEqual([behind(((), (0, 0), 0), (-1, j)) for j in range(2)], [(-1, 0), (-1, 1)])
        self.assertEqual([behind(LEVEL, (-1, j)) for j in range(4)], [(-1, 0), (-1, 3), (-1, 2), (-1, 1)])

    def test_behind_along_an_arc_of_one_crossing(self):
        self.assertEqual([behind(CURL, (0, j)) for j in range(4)], [(0, 0), (0, 3), (0, 2), (0, 1)])
        self.assertEqual([behind(TORUS, (0, j)) for j in range(4)], [(0, 1), (0, 2), (0, 3), (0, 0)])

    def test_each_dart_comes_behind_just_one(self):
        for web in some_webs(random.Random(21), 60):
            darts = darts_of(web)
            self.assertEqual(sorted(behind(web, dart) for dart in darts), sorted(darts))
            self.assertEqual([twin(web, twin(web, dart)) for dart in darts], darts)
            self.assertFalse([dart for dart in darts if twin(web, dart) == dart])


class Faces(unittest.TestCase):
    def test_known(self):
        self.assertEqual(faces(NOTHING), [])
        self.assertEqual(faces(((), (), 4)), [])
        self.assertEqual(faces(((), (3, 3), 0)), [[(-1, 0)], [(-1, 1)]])
        self.assertEqual(faces(LEVEL), [[(-1, 0)], [(-1, 1), (-1, 3)], [(-1, 2)]])
        self.assertEqual(faces(CROSSED_ENDS), [[(-1, 0), (-1, 3), (-1, 2), (-1, 1)]])
        self.assertEqual(faces(CURL), [[(0, 0)], [(0, 1), (0, 3)], [(0, 2)]])
        self.assertEqual(faces(TORUS), [[(0, 0), (0, 1), (0, 2), (0, 3)]])
        self.assertEqual(faces(SINGLE), [
            [(-1, 0), (0, 3)], [(-1, 1), (0, 0)], [(-1, 2), (0, 1)], [(-1, 3), (0, 2)],
        ])
        self.assertEqual(faces(TREFOIL), [
            [(0, 0), (1, 0), (2, 0)], [(0, 1), (2, 3)], [(0, 2), (2, 2), (1, 2)], [(0, 3), (1, 1)], [(1, 3), (2, 1)],
        ])

    def test_each_from_its_least_dart_on_rising(self):
        for web in some_webs(random.Random(22), 100):
            told = faces(web)
            self.assertEqual(told, sorted(told))
            self.assertEqual(sorted(dart for face in told for dart in face), sorted(darts_of(web)))
            for face in told:
                self.assertEqual(face[0], min(face))
                self.assertEqual([behind(web, dart) for dart in face], face[1:] + face[:1])

    def test_as_many_as_by_corners(self):
        for web in some_webs(random.Random(23), 200):
            self.assertEqual(len(faces(web)), corner_count(web))

    def test_names_of_arcs_do_not_matter(self):
        for web in some_webs(random.Random(24), 50):
            self.assertEqual(faces(web), faces(named_anew(web)))

    def test_what_is_told_is_the_askers_own(self):
        kept = copy.deepcopy(faces(TREFOIL))
        told = faces(TREFOIL)
        told[0].append((9, 9))
        told.pop()
        self.assertEqual(faces(TREFOIL), kept)


class Pieces(unittest.TestCase):
    def test_known(self):
        cases = [
            (NOTHING, []), (((), (), 4), []), (LEVEL, [[-1]]), (CROSSED_ENDS, [[-1]]), (CURL, [[0]]),
            (TREFOIL, [[0, 1, 2]]), (SINGLE, [[-1, 0]]), ((CURL[0], (7, 7), 0), [[-1], [0]]),
            ((((0, 1, 0, 1), (2, 3, 2, 3)), (), 0), [[0], [1]]),
            ((((0, 1, 2, 3), (4, 4, 5, 5), (3, 2, 1, 0)), (), 1), [[0, 2], [1]]),
            ((((0, 0, 1, 1), (2, 2, 3, 4), (5, 5, 6, 6), (3, 4, 7, 8)), (8, 7), 0), [[-1, 1, 3], [0], [2]]),
            ((((0, 0, 1, 2), (3, 3, 4, 5), (1, 2, 6, 6), (4, 5, 7, 7)), (), 0), [[0, 2], [1, 3]]),
        ]
        for web, told in cases:
            self.assertEqual(pieces(web), told)

    def test_as_by_joining(self):
        chance = random.Random(25)
        webs = some_webs(chance, 100)
        for _ in range(100):
            one, other = chance_web(chance, 2, 0, 0, 1000), chance_web(chance, chance.randrange(3), 4, 0, 1000)
            apart = tuple(tuple(arc + 1000 for arc in row) for row in one[0])
            rows = list(apart + other[0])
            chance.shuffle(rows)
            webs.append((tuple(rows), other[1], 0))
        for web in webs:
            self.assertEqual(pieces(web), pieces_again(web))

    def test_a_long_chain_hangs_together(self):
        many = 3000
        rows = tuple((2 * k, 2 * k + 1, 2 * (k + 1) % (2 * many), (2 * k + 3) % (2 * many)) for k in range(many))
        self.assertEqual(pieces((rows, (), 0)), [list(range(many))])

    def test_what_is_told_is_the_askers_own(self):
        told = pieces(TREFOIL)
        told[0].append(9)
        told.append([7])
        self.assertEqual(pieces(TREFOIL), [[0, 1, 2]])


class Holes(unittest.TestCase):
    def test_flat_webs(self):
        for web in FLAT:
            self.assertEqual(holes(web), 0)
            self.assertIsNone(check_flat(web))

    def test_webs_that_are_not_flat(self):
        for web, many in HOLED:
            self.assertEqual(holes(web), many)
            self.assertEqual(refused(check_flat, web), (NotFlat, {"holes": many}))

    def test_as_by_corners(self):
        for web in some_webs(random.Random(26), 200):
            arcs = len(places(web))
            doubled = 2 * len(pieces_again(web)) + arcs - len(web[0]) - (1 if web[1] else 0) - corner_count(web)
            self.assertEqual((doubled % 2, 2 * holes(web)), (0, doubled))
            self.assertGreaterEqual(holes(web), 0)
            wanted = (NotFlat, {"holes": holes(web)}) if doubled else None
            self.assertEqual(refused(check_flat, web), wanted)

    def test_webs_drawn_in_the_plane_are_flat(self):
        chance = random.Random(27)
        for steps in range(60):
            for shut in (False, True):
                web = flat_web(chance, steps, shut)
                self.assertIsNone(check_flat(web))
                self.assertIsNone(check_flat(mirrored(web)))
                for many in range(len(web[1]) + 1):
                    self.assertIsNone(check_flat(shifted(web, many)))

    def test_rings_have_no_holes(self):
        for web, many in HOLED:
            self.assertEqual(holes((web[0], web[1], 20)), many)


if __name__ == "__main__":
    unittest.main()
