"""[2], [3], [31], [32], [34]: strands, how a web is strung, turns and links, own sums, and what turnings keep."""

import functools
import itertools
import random
import unittest
from collections import Counter

from tanglehouse.errors import TooWide
from tanglehouse.faces import check_flat
from tanglehouse.gluing import above, beside, closed
from tanglehouse.stores import sums
from tanglehouse.strands import how_strung, links, own_sums, strands, turns
from tanglehouse.texts import read
from tanglehouse.turnings import turned, turnings, weight_of
from tanglehouse.webs import mirrored
from tests.helper import CURL, FIGURE_EIGHT, HOPF, KNOWN, SINGLE, TREFOIL
from tests.helper import all_places, arcs_of, as_told, chance_web, every_web, flat_web, refused, some_webs
from tests.helper import sums_again, sums_times_curls, turnable, twisted_row, walked

# Two closed strands that meet at four crossings, but are linked by nought; one of them meets itself.
WHITEHEAD = "x 6 1 7 2 x 10 7 5 8 x 4 5 1 6 x 2 10 3 9 x 8 4 9 3"
# A web's text, its strands, how it is strung, its turns, its links.
KNOWN_STRANDS = (
    ("", [], (0, ()), 0, []), ("o 3", [], (3, ()), 0, []), ("e 5 5", [[5]], (0, ((0, 1),)), 0, []),
    ("e 7 3 3 7 o 2", [[3], [7]], (2, ((0, 3), (1, 2))), 0, []),
    ("e 0 1 2 0 1 2", [[0], [1], [2]], (0, ((0, 3), (1, 4), (2, 5))), 0, []),
    ("x 0 0 1 1", [[0, 1]], (1, ()), 1, []), ("x 0 1 1 0", [[0, 1]], (1, ()), -1, []),
    ("x 0 0 1 1 o 20", [[0, 1]], (21, ()), 1, []),
    ("x 0 0 1 2 e 1 2", [[0, 1, 2]], (0, ((0, 1),)), 1, []), ("x 0 1 1 2 e 2 0", [[0, 1, 2]], (0, ((0, 1),)), -1, []),
    ("x 0 1 2 3 e 0 1 2 3", [[0, 2], [1, 3]], (0, ((0, 2), (1, 3))), 0, [1]),
    ("x 3 2 1 0 e 2 3 1 0", [[0, 2], [1, 3]], (0, ((0, 3), (1, 2))), 0, [1]),
    ("x 0 1 0 1", [[0], [1]], (2, ()), 0, [1]),
    ("x 0 1 0 2 x 1 3 2 3", [[0], [1, 2], [3]], (3, ()), 0, [1, 1]),
    # Both signs at two crossings of two strands: linked by nought.
    ("x 0 1 2 3 x 2 1 0 3", [[0, 2], [1, 3]], (2, ()), 0, []),
    ("x 1 5 2 4 x 3 1 4 6 x 5 3 6 2", [[1, 2, 3, 4, 5, 6]], (1, ()), 3, []),
    ("x 4 2 5 1 x 8 6 1 5 x 6 3 7 4 x 2 7 3 8", [[1, 2, 3, 4, 5, 6, 7, 8]], (1, ()), 0, []),
    ("x 4 1 3 2 x 2 3 1 4", [[1, 2], [3, 4]], (2, ()), 0, [2]),
)


def strands_again(web):
    """The strands, by putting sets of arcs together."""
    groups = [{arc} for arc in arcs_of(web)]
    for row in web[0]:
        for one, other in ((row[0], row[2]), (row[1], row[3])):
            met = [group for group in groups if one in group or other in group]
            groups = [group for group in groups if group not in met] + [set().union(*met)]
    return sorted(sorted(group) for group in groups)


def there_of(web):
    """For each place the other one of its arc."""
    stands = {}
    for place in all_places(len(web[0]), len(web[1])):
        arc = web[1][place[1]] if place[0] == -1 else web[0][place[0]][place[1]]
        stands.setdefault(arc, []).append(place)
    return {one: other for pair in stands.values() for one, other in (pair, pair[::-1])}


def signs_by_chance(web, chance):
    """For each crossing its two strands' numbers and its sign, each strand gone along in a direction by chance."""
    there = there_of(web)
    left = sorted(there)
    chance.shuffle(left)
    # A strand with ends is begun at one of them.
    left.sort(key=lambda place: place[0] != -1)
    passed, number, came = set(), 0, {}
    for place in left:
        if place in passed:
            continue
        while place not in passed:
            passed.update((place, there[place]))
            k, j = there[place]
            if k == -1:
                break
            came.setdefault(k, []).append((j, number))
            place = (k, (j + 2) % 4)
        number += 1
    told = []
    for k in range(len(web[0])):
        (under, one), (upper, other) = sorted(came[k], key=lambda row: row[0] % 2)
        told.append((frozenset((one, other)), 1 if (under, upper) in ((0, 3), (2, 1)) else -1))
    return told


def turns_again(web, chance):
    return sum(sign for pair, sign in signs_by_chance(web, chance) if len(pair) == 1)


def links_again(web, chance):
    told = Counter()
    for pair, sign in signs_by_chance(web, chance):
        if len(pair) == 2:
            told[pair] += sign
    return sorted(abs(number) for number in told.values() if number)


def webs_of_all_sorts(chance, many):
    told = some_webs(chance, many) + [read(WHITEHEAD)]
    told += [flat_web(chance, chance.randint(2, 30), chance.randrange(2) == 0) for _ in range(many)]
    return told + [chance_web(chance, 40, 2 * chance.randrange(5), 20) for _ in range(5)]


class Strands(unittest.TestCase):
    def test_known(self):
        for text, wanted, _, _, _ in KNOWN_STRANDS:
            self.assertEqual(strands(read(text)), wanted, text)

    def test_small_ones_all(self):
        for crossings, ends in ((1, 0), (1, 2), (1, 4), (2, 0), (2, 2)):
            for web in every_web(crossings, ends):
                self.assertEqual(strands(web), strands_again(web), web)

    def test_by_chance(self):
        for web in webs_of_all_sorts(random.Random(149), 120):
            told = strands(web)
            self.assertEqual(told, strands_again(web), web)
            # Each arc in just one.
            self.assertEqual(sorted(itertools.chain(*told)), arcs_of(web))
            self.assertTrue(all(strand == sorted(strand) for strand in told) and told == sorted(told))

    def test_kinds(self):
        told = strands(read("x 0 1 0 2 x 1 3 2 3 e 4 4"))
        self.assertEqual(told, [[0], [1, 2], [3], [4]])
        self.assertEqual([type(told)] + [type(strand) for strand in told], [list] * 5)


class HowStrung(unittest.TestCase):
    def test_known(self):
        for text, _, wanted, _, _ in KNOWN_STRANDS:
            self.assertEqual(how_strung(read(text)), wanted, text)

    def test_small_ones_all(self):
        for crossings, ends in ((1, 0), (1, 2), (1, 4), (2, 0), (2, 2)):
            for web in every_web(crossings, ends):
                joining, rings = walked(web, (2,) * crossings)
                self.assertEqual(how_strung(web), (rings, joining), web)

    def test_by_chance(self):
        seen = Counter()
        for web in webs_of_all_sorts(random.Random(150), 120):
            joining, rings = walked(web, (2,) * len(web[0]))
            self.assertEqual(how_strung(web), (rings, joining), web)
            seen[len(joining)] += 1
            seen["rings"] += web[2] > 0
        self.assertTrue(min(seen[k] for k in (0, 1, 2, 3, 4, "rings")) > 5, seen)

    def test_kinds(self):
        told = how_strung(read("x 0 1 2 3 e 0 1 2 3 o 1"))
        self.assertEqual([type(told), type(told[0]), type(told[1]), type(told[1][0])], [tuple, int, tuple, tuple])


class Turns(unittest.TestCase):
    def test_known(self):
        for text, _, _, wanted, _ in KNOWN_STRANDS:
            self.assertEqual(turns(read(text)), wanted, text)
            self.assertEqual(turns(mirrored(read(text))), -wanted, text)

    def test_one_strand_with_several_crossings(self):
        for many in range(1, 20, 2):
            # Closed by way 0 both ways through a crossing go the same side on; by way 1 each is a curl.
            self.assertEqual(turns(closed(twisted_row(many), 0)), -many)
            self.assertEqual(turns(closed(twisted_row(many), 1)), many)

    def test_where_others_meet_it_nothing_is_added(self):
        for many in range(2, 20, 2):
            self.assertEqual(turns(closed(twisted_row(many), 0)), 0)
            self.assertEqual(turns(closed(twisted_row(many), 1)), many)
        self.assertEqual(abs(turns(read(WHITEHEAD))), 1)

    def test_in_either_direction(self):
        chance = random.Random(151)
        for web in webs_of_all_sorts(chance, 80) + list(every_web(2, 0)) + list(every_web(2, 2))[::7]:
            told = turns(web)
            for _ in range(3):
                self.assertEqual(told, turns_again(web, chance), web)


class Links(unittest.TestCase):
    def test_known(self):
        for text, _, _, _, wanted in KNOWN_STRANDS:
            self.assertEqual(links(read(text)), wanted, text)
            self.assertEqual(links(mirrored(read(text))), wanted, text)

    def test_two_strands(self):
        for many in range(2, 20, 2):
            self.assertEqual(links(closed(twisted_row(many), 0)), [many])
            self.assertEqual(links(closed(twisted_row(many), 1)), [])
        self.assertEqual(links(read(WHITEHEAD)), [])
        self.assertIsNone(check_flat(read(WHITEHEAD)))

    def test_a_row_of_strands(self):
        # Each strand is linked with the next one alone, by as many crossings as stand above one another there.
        column = lambda many: functools.reduce(above, [SINGLE] * many)
        for row in ((2, 4), (4, 2), (2, 6, 4), (4, 2, 4), (2, 2, 2, 2)):
            web = closed(functools.reduce(beside, [column(many) for many in row]), 1)
            self.assertEqual(how_strung(web), (len(row) + 1, ()))
            self.assertEqual((links(web), turns(web)), (sorted(row), 0))

    def test_several_strands(self):
        seen = Counter()
        chance = random.Random(152)
        for web in webs_of_all_sorts(chance, 120) + list(every_web(2, 0)) + list(every_web(2, 2))[::7]:
            told = links(web)
            self.assertEqual(told, sorted(told))
            for _ in range(3):
                self.assertEqual(told, links_again(web, chance), web)
            seen[len(told)] += 1
        self.assertTrue(min(seen[k] for k in (0, 1, 2, 3)) > 10, seen)

    def test_kinds(self):
        self.assertEqual([type(links(HOPF)), type(links(HOPF)[0])], [list, int])
        self.assertEqual(type(turns(HOPF)), int)


class OwnSums(unittest.TestCase):
    def test_known(self):
        ring = {(): ((-2, -1), (2, -1))}
        self.assertEqual(own_sums(((), (), 1)), ring)
        self.assertEqual(own_sums(CURL), ring)
        self.assertEqual(own_sums(mirrored(CURL)), ring)
        for many in range(1, 12):
            self.assertEqual(own_sums(closed(twisted_row(many), 1)), ring)
        self.assertEqual(own_sums(TREFOIL), {(): ((-18, 1), (-10, -1), (-6, -1), (-2, -1))})
        self.assertEqual(own_sums(mirrored(TREFOIL)), {(): ((2, -1), (6, -1), (10, -1), (18, 1))})
        self.assertEqual(own_sums(FIGURE_EIGHT), sums(FIGURE_EIGHT))
        self.assertEqual(own_sums(((), (), 0)), {(): ((0, 1),)})
        # Where nothing comes of a joining's sums, it stays left out.
        self.assertEqual(own_sums(read("x 0 0 1 2 e 1 2")), {((0, 1),): ((0, 1),)})

    def test_as_by_walking(self):
        chance = random.Random(153)
        for web in list(KNOWN) + [chance_web(chance, chance.randint(1, 5), 4, chance.randrange(3)) for _ in range(60)]:
            wanted = sums_times_curls(as_told(sums_again(web)), -turns_again(web, chance))
            self.assertEqual(own_sums(web), wanted, web)

    def test_too_wide(self):
        chance = random.Random(154)
        for _ in range(8):
            web = chance_web(chance, 40, 8, 0)
            told = refused(own_sums, web)
            self.assertEqual(told[0], TooWide)
            self.assertEqual(told, refused(sums, web))


class Kept(unittest.TestCase):
    def kept_by(self, web, turning):
        told = turned(web, turning)
        self.assertEqual(how_strung(told), how_strung(web), (web, turning))
        self.assertEqual(links(told), links(web), (web, turning))
        self.assertEqual(turns(told), turns(web) - weight_of(turning), (web, turning))
        if refused(sums, web) is None and refused(sums, told) is None:
            self.assertEqual(own_sums(told), own_sums(web), (web, turning))

    def test_at_each_corner(self):
        for web, turning in turnable(random.Random(155), 5, 7, 8):
            self.kept_by(web, turning)

    def test_flat_ones(self):
        seen = Counter()
        for web in [flat_web(random.Random(156 + k), 6 + k % 16, k % 2 == 0) for k in range(60)]:
            for turning in turnings(web):
                self.kept_by(web, turning)
                seen[turning[0]] += 1
        self.assertTrue(min(seen[word] for word in ("curl", "slide", "over")) > 15, seen)

    def test_small_ones_all(self):
        for web in itertools.chain(every_web(1, 0), every_web(1, 2), every_web(2, 0)):
            for turning in turnings(web):
                self.kept_by(web, turning)


class Given(unittest.TestCase):
    def test_what_is_told_is_the_askers_own(self):
        for text, wanted, _, _, linked in KNOWN_STRANDS:
            web = read(text)
            told = strands(web)
            for strand in told:
                strand.append(99)
            told.append([])
            links(web).append(7)
            self.assertEqual((strands(web), links(web)), (wanted, linked))
            kept = dict(own_sums(web))
            own_sums(web).clear()
            self.assertEqual(own_sums(web), kept)

    def test_what_is_handed_in_stays(self):
        for text, _, _, _, _ in KNOWN_STRANDS:
            web = read(text)
            for ask in (strands, how_strung, turns, links, own_sums):
                self.assertEqual(ask(web), ask(web))
            self.assertEqual(web, read(text))


if __name__ == "__main__":
    unittest.main()
