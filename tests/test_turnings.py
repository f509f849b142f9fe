"""[2], [3], [29], [30]: turnings of webs, what comes of them, their weights."""

import copy
import itertools
import random
import unittest
from collections import Counter

from tanglehouse.errors import NoTurning
from tanglehouse.faces import check_flat, faces, holes
from tanglehouse.stores import sums
from tanglehouse.texts import read, shown
from tanglehouse.turnings import turned, turnings, weight_of
from tanglehouse.ways import plain_sums
from tanglehouse.webs import check_web, mirrored, named_anew
from tests.helper import CURL, FIGURE_EIGHT, HOPF, KNOWN, OTHER_THINGS, TREFOIL
from tests.helper import arcs_of, as_told, every_web, flat_web, planted, refused, some_webs, sums_again
from tests.helper import sums_times_curls, turnable, turned_again, turnings_again

REFUSED = (NoTurning, {})
WORDS = ("curl", "over", "slide")
THREE = "x 0 2 3 4 x 1 0 5 6 x 8 2 1 7 e 3 4 5 6 7 8"
# A web's text and its turnings.
TURNINGS = (
    ("", []), ("o 4", []), ("e 0 0", []), ("e 0 1 1 0 o 2", []), ("x 0 1 2 3 e 0 1 2 3", []),
    ("x 0 0 1 2 e 1 2", [("curl", ((0, 0),))]), ("x 0 1 1 2 e 0 2", [("curl", ((0, 1),))]),
    ("x 0 1 2 2 e 0 1", [("curl", ((0, 2),))]), ("x 0 1 2 0 e 1 2", [("curl", ((0, 3),))]),
    ("x 0 0 1 1", [("curl", ((0, 0),)), ("curl", ((0, 2),))]),
    ("x 0 1 1 0", [("curl", ((0, 1),)), ("curl", ((0, 3),))]), ("x 0 1 0 1", []),
    # Both even; one of them odd, the one or the other; both odd.
    ("x 0 1 2 3 x 1 0 4 5 e 2 3 4 5", []), ("x 0 1 2 3 x 4 1 0 5 e 2 3 5 4", [("slide", ((0, 0), (1, 1)))]),
    ("x 0 1 2 3 x 2 1 4 5 e 0 3 4 5", [("slide", ((0, 1), (1, 0)))]),
    ("x 0 1 2 3 x 4 2 1 5 e 0 3 4 5", []),
    # A face of three corners, of which two are of one crossing.
    ("x 0 0 1 2 x 1 2 3 4 e 3 4", [("curl", ((0, 0),))]),
    (THREE, [("over", ((0, 0), (1, 0), (2, 1)))]),
    # All three even; all three odd.
    ("x 0 2 3 4 x 1 0 5 6 x 2 1 7 8 e 3 4 5 6 7 8", []), ("x 4 0 2 3 x 6 1 0 5 x 8 2 1 7 e 3 4 5 6 7 8", []),
)
# A web's text, a turning of it, the text of what comes.
TURNED = (
    ("x 0 0 1 2 e 1 2", ("curl", ((0, 0),)), "e 0 0"), ("x 0 1 1 2 e 0 2", ("curl", ((0, 1),)), "e 0 0"),
    ("x 0 1 2 2 e 0 1", ("curl", ((0, 2),)), "e 0 0"), ("x 0 1 2 0 e 1 2", ("curl", ((0, 3),)), "e 0 0"),
    # The arcs that are joined are the same: a ring more.
    ("x 0 0 1 1", ("curl", ((0, 0),)), "o 1"), ("x 0 0 1 1", ("curl", ((0, 2),)), "o 1"),
    ("x 7 4 4 7 o 5", ("curl", ((0, 1),)), "o 6"), ("x 7 4 4 7 o 5", ("curl", ((0, 3),)), "o 6"),
    ("x 0 0 1 2 x 1 2 3 4 e 3 4", ("curl", ((0, 0),)), "x 0 0 1 2 e 1 2"),
    ("x 1 2 3 4 x 0 0 1 2 x 5 6 3 4 e 6 5", ("curl", ((1, 0),)), "x 0 0 1 2 x 3 4 1 2 e 4 3"),
    ("x 0 1 2 3 x 4 1 0 5 e 2 3 5 4", ("slide", ((0, 0), (1, 1))), "e 0 1 1 0"),
    ("x 0 1 2 3 x 2 1 4 5 e 0 3 4 5", ("slide", ((0, 1), (1, 0))), "e 0 1 0 1"),
    # One pair of arcs is the same one; both; both by then, crosswise and by an arc on either side.
    ("x 0 1 2 3 x 2 1 0 4 e 3 4", ("slide", ((0, 0), (1, 1))), "e 0 0 o 1"),
    ("x 0 1 2 3 x 4 1 0 3 e 2 4", ("slide", ((0, 0), (1, 1))), "e 0 0 o 1"),
    ("x 0 1 2 3 x 2 1 0 3", ("slide", ((0, 0), (1, 1))), "o 2"),
    ("x 0 1 2 3 x 3 1 0 2 o 1", ("slide", ((0, 0), (1, 1))), "o 2"),
    ("x 0 1 2 2 x 3 1 0 3", ("slide", ((0, 0), (1, 1))), "o 1"),
    ("x 0 1 2 2 x 3 1 0 4 e 3 4", ("slide", ((0, 0), (1, 1))), "e 0 0"),
    ("x 0 1 2 3 x 3 1 0 4 e 2 4", ("slide", ((0, 0), (1, 1))), "e 0 0"),
    # A crossing stands between both, and arcs of it are joined.
    ("x 0 1 2 3 x 2 6 7 5 x 4 1 0 5 e 3 6 7 4", ("slide", ((0, 0), (2, 1))), "x 0 1 2 3 e 3 1 2 0"),
    (THREE, ("over", ((0, 0), (1, 0), (2, 1))), "x 0 1 2 3 x 4 5 6 2 x 6 7 8 3 e 5 7 8 0 1 4"),
    ("x 0 1 2 3 x 4 5 6 2 x 6 7 8 3 e 5 7 8 0 1 4", ("over", ((0, 2), (1, 2), (2, 3))),
     "x 0 1 2 3 x 4 0 5 6 x 7 1 4 8 e 2 3 5 6 8 7"),
)


def small_webs():
    """All webs of one and two crossings with few ends."""
    return itertools.chain(every_web(1, 0), every_web(1, 2), every_web(1, 4), every_web(2, 0), every_web(2, 2))


def flat_webs(chance, many, steps):
    return [flat_web(chance, chance.randint(4, steps), chance.randrange(2) == 0) for _ in range(many)]


class Turnings(unittest.TestCase):
    def test_known(self):
        for text, wanted in TURNINGS:
            self.assertEqual(turnings(read(text)), wanted, text)

    def test_none(self):
        # Where strands go above and beneath by turns, there are faces of two and three corners, but no turnings.
        for web in (TREFOIL, HOPF, FIGURE_EIGHT):
            self.assertTrue({2, 3} & {len(face) for face in faces(web)})
            self.assertEqual(turnings(web), [])
            self.assertEqual(turnings(mirrored(web)), [])

    def test_small_ones_all(self):
        seen = Counter()
        for web in itertools.chain(small_webs(), itertools.islice(every_web(3, 0), 0, None, 5)):
            told = turnings(web)
            self.assertEqual(told, turnings_again(web), web)
            seen.update(word for word, _ in told)
        self.assertTrue(min(seen[word] for word in WORDS) > 100, seen)

    def test_at_each_corner(self):
        chance = random.Random(134)
        seen = {}
        for web, turning in turnable(chance, 4, 7, 8):
            told = turnings(web)
            self.assertIn(turning, told)
            self.assertEqual(told, turnings_again(web), web)
            seen.setdefault(turning[0], set()).add(tuple(i for _, i in turning[1]))
        self.assertEqual({word: len(rows) for word, rows in seen.items()}, {"curl": 4, "slide": 8, "over": 48})

    def test_flat_ones(self):
        seen = Counter()
        for web in flat_webs(random.Random(135), 150, 24) + some_webs(random.Random(136), 60):
            told = turnings(web)
            self.assertEqual(told, turnings_again(web), web)
            seen.update(word for word, _ in told)
        self.assertTrue(min(seen[word] for word in WORDS) > 50, seen)

    def test_rising_and_of_their_kinds(self):
        longest = 0
        for web in flat_webs(random.Random(137), 60, 40):
            told = turnings(web)
            self.assertEqual(type(told), list)
            self.assertTrue(all(one < other for one, other in zip(told, told[1:])))
            for one in told:
                self.assertEqual([type(one), len(one), type(one[0]), type(one[1])], [tuple, 2, str, tuple])
                for corner in one[1]:
                    self.assertEqual([type(corner)] + [type(number) for number in corner], [tuple, int, int])
                self.assertIn(list(one[1]), faces(web))
            longest = max(longest, len({word for word, _ in told}))
        self.assertEqual(longest, 3)


class Turned(unittest.TestCase):
    def test_known(self):
        for text, turning, wanted in TURNED:
            self.assertEqual(shown(turned(read(text), turning)), wanted, (text, turning))

    def test_small_ones_as_by_walking(self):
        seen = Counter()
        for web in itertools.chain(small_webs(), itertools.islice(every_web(3, 0), 0, None, 5)):
            for turning in turnings(web):
                told = turned(web, turning)
                self.assertEqual(told, turned_again(web, turning), (web, turning))
                seen[(turning[0], told[2] - web[2])] += 1
        wanted = [("curl", 0), ("curl", 1), ("over", 0), ("slide", 0), ("slide", 1), ("slide", 2)]
        self.assertEqual(sorted(seen), wanted)

    def test_at_each_corner_as_by_walking(self):
        for web, turning in turnable(random.Random(138), 8, 9, 8):
            self.assertEqual(turned(web, turning), turned_again(web, turning), (web, turning))

    def test_flat_ones_as_by_walking(self):
        for web in flat_webs(random.Random(139), 100, 24):
            for turning in turnings(web):
                self.assertEqual(turned(web, turning), turned_again(web, turning), (web, turning))

    def test_webs_named_anew(self):
        for web, turning in turnable(random.Random(140), 3, 9, 8):
            told = turned(web, turning)
            self.assertIsNone(check_web(told))
            self.assertEqual(named_anew(told), told)
            gone = {"curl": 1, "slide": 2, "over": 0}[turning[0]]
            self.assertEqual((len(told[0]), len(told[1])), (len(web[0]) - gone, len(web[1])))
            self.assertEqual([type(part) for part in (told,) + told], [tuple, tuple, tuple, int])

    def test_names_of_arcs_are_nothing(self):
        chance = random.Random(141)
        for web, turning in turnable(chance, 1, 6, 4):
            arcs = arcs_of(web)
            names = dict(zip(arcs, chance.sample(range(10 ** 9), len(arcs))))
            rows = tuple(tuple(names[arc] for arc in row) for row in web[0])
            again = (rows, tuple(names[arc] for arc in web[1]), web[2])
            self.assertEqual(turnings(again), turnings(web))
            self.assertEqual(turned(again, turning), turned(web, turning))

    def test_to_the_bounds(self):
        chance = random.Random(142)
        for row in ((3,), (1, 2), (2, 1), (1, 3, 0), (2, 1, 2)):
            word = {1: "curl", 2: "slide", 3: "over"}[len(row)]
            numbers = chance.sample(range(40), len(row))
            web, turning = planted(chance, word, list(zip(numbers, row)), 40, 8)
            self.assertEqual(turned(web, turning), turned_again(web, turning))

    def test_on_and_on(self):
        chance = random.Random(143)
        for _ in range(20):
            web = flat_web(chance, 24, True)
            for _ in range(60):
                known = turnings(web)
                if not known:
                    break
                again = chance.choice(known)
                web, wanted = turned(web, again), turned_again(web, again)
                self.assertEqual(web, wanted)


class Refused(unittest.TestCase):
    def test_any_thing(self):
        texts = ("", "curl", "slide", "over", "curl 0 0")
        for web in KNOWN + (read("x 0 0 1 2 e 1 2"), read(THREE)):
            for thing in OTHER_THINGS + texts + ((), (0,), ("curl",), ("curl", ()), ("slide", ()), ("over", ())):
                self.assertEqual(refused(turned, web, thing), REFUSED, (web, thing))
            for thing in OTHER_THINGS + texts:
                self.assertEqual(refused(turned, web, ("curl", thing)), REFUSED, (web, thing))
                self.assertEqual(refused(turned, web, ("curl", (thing,))), REFUSED, (web, thing))
                if thing != "curl":
                    self.assertEqual(refused(turned, web, (thing, ((0, 0),))), REFUSED, (web, thing))
                if type(thing) is not int:
                    for corner in ((0, thing), (thing, 0), (thing,), (0, 0, thing), (thing, thing)):
                        self.assertEqual(refused(turned, web, ("curl", (corner,))), REFUSED, (web, corner))

    def test_truths_are_no_numbers(self):
        first, second = ((0, 0, 1, 2),), ((0, 1, 1, 2),)
        self.assertIsNone(refused(turned, (first, (1, 2), 0), ("curl", ((0, 0),))))
        for corner in ((False, 0), (0, False), (False, False)):
            self.assertEqual(refused(turned, (first, (1, 2), 0), ("curl", (corner,))), REFUSED)
        self.assertIsNone(refused(turned, (second, (0, 2), 0), ("curl", ((0, 1),))))
        for corner in ((0, True), (False, 1), (False, True)):
            self.assertEqual(refused(turned, (second, (0, 2), 0), ("curl", (corner,))), REFUSED)
        for corners in (((0, 0), (True, 1)), ((0, 0), (1, True)), ((0, False), (1, 1)), ((False, 0), (1, 1))):
            self.assertEqual(refused(turned, read("x 0 1 2 3 x 4 1 0 5 e 2 3 5 4"), ("slide", corners)), REFUSED)
        for corners in (((0, 0), (1, 0), (2, True)), ((0, 0), (True, 0), (2, 1)), ((0, False), (1, 0), (2, 1))):
            self.assertEqual(refused(turned, read(THREE), ("over", corners)), REFUSED)

    def test_near_to_a_turning(self):
        for text, (word, corners), _ in TURNED:
            web = read(text)
            near = [(word, corners[k:] + corners[:k]) for k in range(1, len(corners))]
            near += [(word, tuple(reversed(corners)))] * (len(corners) > 1)
            near += [(other, corners) for other in WORDS + ("Curl", "", None, 0) if other != word]
            near += [[word, corners], (word, list(corners)), (word, tuple(list(corner) for corner in corners))]
            near += [(word, corners, 0), (word, corners, weight_of((word, corners))), (word,), corners, (corners, word)]
            near += [(word, corners + corners), (word, corners[:-1]), (word, corners + ((0, 0),)), (word, corners[0])]
            near += [(word, tuple((k, i + 4) for k, i in corners)), (word, tuple((k, i - 4) for k, i in corners))]
            near += [(word, tuple((k - len(web[0]), i) for k, i in corners))]
            near += [(word, tuple((k + 1, i) for k, i in corners)), (word, tuple((-1, i) for k, i in corners))]
            near += [(word, tuple((i, k) for k, i in corners))] * any(k != i for k, i in corners)
            for thing in near:
                if thing not in turnings_again(web):
                    self.assertEqual(refused(turned, web, thing), REFUSED, (text, thing))

    def test_small_ones_all(self):
        for web in itertools.islice(every_web(2, 2), 0, None, 9):
            known = turnings_again(web)
            corners = [(k, i) for k in range(-1, 3) for i in range(-1, 5)]
            for thing in [("curl", (one,)) for one in corners] + [("slide", (one, two)) for one in corners[8:14]
                                                                  for two in corners[14:20]]:
                wanted = None if thing in known else REFUSED
                self.assertEqual(refused(turned, web, thing), wanted, (web, thing))

    def test_faces_that_are_none(self):
        # A face at the rim; one of three corners that are all even; one of two corners of one crossing.
        self.assertEqual(refused(turned, read("e 0 0"), ("curl", ((-1, 0),))), REFUSED)
        self.assertEqual(refused(turned, read("x 0 1 2 3 e 0 1 2 3"), ("slide", ((-1, 1), (0, 0)))), REFUSED)
        self.assertEqual(refused(turned, HOPF, ("slide", tuple(faces(HOPF)[0]))), REFUSED)
        self.assertEqual(refused(turned, TREFOIL, ("over", tuple(faces(TREFOIL)[0]))), REFUSED)
        self.assertEqual(refused(turned, CURL, ("slide", ((0, 1), (0, 3)))), REFUSED)
        web = read("x 0 0 1 2 x 1 2 3 4 e 3 4")
        self.assertEqual(refused(turned, web, ("over", ((0, 1), (0, 3), (1, 0)))), REFUSED)
        self.assertIn([(0, 1), (0, 3), (1, 0)], faces(web))


class Weight(unittest.TestCase):
    def test_known(self):
        for k in (0, 7):
            self.assertEqual([weight_of(("curl", ((k, i),))) for i in range(4)], [1, -1, 1, -1])
        for row in itertools.product(range(4), repeat=2):
            self.assertEqual(weight_of(("slide", tuple(enumerate(row)))), 0)
        for row in itertools.product(range(4), repeat=3):
            self.assertEqual(weight_of(("over", tuple(enumerate(row)))), 0)

    def test_small_ones_sums_by_walking(self):
        chance = random.Random(144)
        for web, turning in turnable(chance, 1, 4, 4):
            wanted = sums_times_curls(as_told(sums_again(turned(web, turning))), weight_of(turning))
            self.assertEqual(as_told(sums_again(web)), wanted, (web, turning))

    def test_plain_sums(self):
        chance = random.Random(145)
        for web in itertools.islice(small_webs(), 0, None, 3):
            for turning in turnings(web):
                wanted = sums_times_curls(plain_sums(turned(web, turning)), weight_of(turning))
                self.assertEqual(plain_sums(web), wanted, (web, turning))
        for web, turning in turnable(chance, 3, 6, 8):
            wanted = sums_times_curls(plain_sums(turned(web, turning)), weight_of(turning))
            self.assertEqual(plain_sums(web), wanted, (web, turning))

    def test_sums_of_greater_ones(self):
        seen = Counter()
        for web in flat_webs(random.Random(146), 50, 30):
            for turning in turnings(web):
                told = turned(web, turning)
                if refused(sums, web) is None and refused(sums, told) is None:
                    self.assertEqual(sums(web), sums_times_curls(sums(told), weight_of(turning)), (web, turning))
                    seen[turning[0]] += 1
        self.assertTrue(min(seen[word] for word in WORDS) > 20, seen)


class Kept(unittest.TestCase):
    def test_flat_webs_stay_flat(self):
        seen = Counter()
        for web in flat_webs(random.Random(147), 150, 30):
            self.assertIsNone(check_flat(web))
            for turning in turnings(web):
                self.assertIsNone(check_flat(turned(web, turning)), (web, turning))
                seen[turning[0]] += 1
        self.assertTrue(min(seen[word] for word in WORDS) > 50, seen)

    def test_small_flat_webs_all(self):
        seen = Counter()
        for web in itertools.chain(small_webs(), itertools.islice(every_web(3, 0), 0, None, 3)):
            if holes(web) == 0:
                for turning in turnings(web):
                    self.assertIsNone(check_flat(turned(web, turning)), (web, turning))
                    seen[turning[0]] += 1
        self.assertTrue(min(seen[word] for word in WORDS) > 20, seen)

    def test_an_over_leads_back(self):
        many = 0
        for web, (word, corners) in turnable(random.Random(148), 6, 7, 8):
            if word == "over":
                told = turned(web, (word, corners))
                back = (word, tuple((k, (i + 2) % 4) for k, i in corners))
                self.assertIn(back, turnings(told))
                self.assertEqual(turned(told, back), named_anew(web))
                many += 1
        self.assertEqual(many, 6 * 48)


class Given(unittest.TestCase):
    def test_what_is_told_is_the_askers_own(self):
        for text, wanted in TURNINGS:
            web = read(text)
            turnings(web).append(("curl", ((9, 9),)))
            turnings(web).clear()
            self.assertEqual(turnings(web), wanted)

    def test_asked_again_the_same_is_told(self):
        for text, turning, wanted in TURNED:
            web, kept = read(text), copy.deepcopy(turning)
            self.assertEqual([shown(turned(web, turning)), shown(turned(web, turning))], [wanted, wanted])
            self.assertEqual((web, turning), (read(text), kept))

    def test_what_is_refused_stays(self):
        thing = ["curl", [[0, 0]], {0: 1}]
        kept = copy.deepcopy(thing)
        self.assertEqual(refused(turned, CURL, thing), REFUSED)
        self.assertEqual(thing, kept)


if __name__ == "__main__":
    unittest.main()
