"""[2], [35], [36], [37]: walks, plain forms, namings."""

import copy
import itertools
import random
import unittest
from collections import Counter

from tanglehouse.colours import colours
from tanglehouse.errors import TooWide
from tanglehouse.faces import faces, pieces
from tanglehouse.plain import is_naming, naming, plain, told_by
from tanglehouse.stores import sums
from tanglehouse.strands import how_strung, links, own_sums, strands, turns
from tanglehouse.texts import read, shown
from tanglehouse.webs import alike_webs, check_web, mirrored, named_anew, shifted
from tests.helper import CURL, FIGURE_EIGHT, HOPF, KNOWN, NOTHING, SINGLE, TREFOIL
from tests.helper import arcs_of, chance_web, every_web, flat_web, is_naming_again, least_wording, narrow_web
from tests.helper import plain_again, refused, reworded, some_webs, told_again

# A web's text, a gate, and the crossings that the walk from there tells, written.
TOLD = (
    # One crossing, with arcs at two of its own places.
    ("x 0 0 1 1", (0, 0), "x 0 0 1 1"), ("x 0 0 1 1", (0, 2), "x 0 0 1 1"),
    ("x 7 4 4 7", (0, 0), "x 0 1 1 0"), ("x 7 4 4 7", (0, 2), "x 0 1 1 0"),
    ("x 9 8 9 8", (0, 0), "x 0 1 0 1"), ("x 9 8 9 8", (0, 2), "x 0 1 0 1"),
    # Come to at its places 0, 2, 1 and 3.
    ("x 5 5 1 2 x 1 2 3 3", (0, 0), "x 0 0 1 2 x 1 2 3 3"), ("x 5 5 1 2 x 3 3 1 2", (0, 0), "x 0 0 1 2 x 1 2 3 3"),
    ("x 5 5 1 2 x 3 1 2 3", (0, 0), "x 0 0 1 2 x 3 1 2 3"), ("x 5 5 1 2 x 2 3 3 1", (0, 0), "x 0 0 1 2 x 3 1 2 3"),
    # From the other gate, and from the other crossing's.
    ("x 5 5 1 2 x 1 2 3 3", (0, 2), "x 0 1 2 2 x 0 1 3 3"), ("x 5 5 1 2 x 1 2 3 3", (1, 0), "x 0 1 2 2 x 0 1 3 3"),
    ("x 5 5 1 2 x 1 2 3 3", (1, 2), "x 0 0 1 2 x 1 2 3 3"), ("x 5 5 1 2 x 3 1 2 3", (1, 0), "x 0 1 2 0 x 1 2 3 3"),
    ("x 5 5 1 2 x 3 1 2 3", (1, 2), "x 0 1 1 2 x 2 0 3 3"),
    ("x 1 5 2 4 x 3 1 4 6 x 5 3 6 2", (0, 0), "x 0 1 2 3 x 4 0 3 5 x 1 4 5 2"),
    ("x 1 5 2 4 x 3 1 4 6 x 5 3 6 2", (0, 2), "x 0 1 2 3 x 4 0 3 5 x 1 4 5 2"),
    # The crossing that comes first is gone on from first, and the last place's arc leads to the last one that comes.
    ("x 0 1 2 3 x 4 5 1 0 x 5 4 6 7 x 7 6 3 2", (0, 0), "x 0 1 2 3 x 1 0 4 5 x 3 2 6 7 x 5 4 7 6"),
    ("x 0 1 2 3 x 4 5 1 0 x 5 4 6 7 x 7 6 3 2", (2, 0), "x 0 1 2 3 x 1 0 4 5 x 3 2 6 7 x 5 4 7 6"),
    # One piece of several, some of one kind.
    ("x 0 0 1 1 x 2 2 3 3", (0, 0), "x 0 0 1 1"), ("x 0 0 1 1 x 2 2 3 3", (1, 2), "x 0 0 1 1"),
    ("x 0 0 1 1 x 2 4 4 2 e 5 5 o 3", (1, 0), "x 0 1 1 0"), ("x 0 1 2 3 x 8 8 9 9 e 0 1 2 3", (1, 0), "x 0 0 1 1"),
)
# A web's text and its plain form's.
PLAIN = (
    ("", ""), ("o 3", "o 3"), ("e 4 4", "e 0 0"), ("e 5 3 3 5 o 1", "e 0 1 1 0 o 1"), ("e 7 2 7 2", "e 0 1 0 1"),
    # Come to from the first end at each place.
    ("x 9 8 7 6 e 9 8 7 6", "x 0 1 2 3 e 0 1 2 3"), ("x 9 8 7 6 e 8 7 6 9", "x 0 1 2 3 e 1 2 3 0"),
    ("x 9 8 7 6 e 7 6 9 8", "x 0 1 2 3 e 0 1 2 3"), ("x 9 8 7 6 e 6 9 8 7", "x 0 1 2 3 e 1 2 3 0"),
    ("x 3 3 1 2 e 2 1", "x 0 1 2 2 e 1 0"), ("x 3 3 1 2 e 1 2 o 2", "x 0 1 2 2 e 0 1 o 2"),
    # All ends are gone along ahead of the arcs of the crossing that comes first.
    ("x 1 2 3 4 x 9 8 5 6 x 4 6 7 5 e 1 9 2 3 7 8", "x 0 1 2 3 x 4 5 6 7 x 8 6 3 7 e 0 4 1 2 8 5"),
    # A piece with an end only, and one without any.
    ("e 3 3 1 1", "e 0 0 1 1"), ("x 5 6 6 5 e 3 3", "x 0 1 1 0 e 2 2"),
    # The piece with the rim ahead of lesser ones, those rising.
    ("x 0 0 1 1 x 4 5 5 6 e 4 6", "x 0 1 1 2 x 3 3 4 4 e 0 2"),
    ("x 0 1 1 0 x 2 2 3 3", "x 0 0 1 1 x 2 3 3 2"), ("x 2 2 3 3 x 1 0 0 1 o 1", "x 0 0 1 1 x 2 3 3 2 o 1"),
    ("x 0 0 1 1 x 2 2 3 3", "x 0 0 1 1 x 2 2 3 3"), ("x 0 1 0 1 x 2 3 3 2 x 4 4 5 5", "x 0 0 1 1 x 2 3 2 3 x 4 5 5 4"),
    # Not as many crossings: rising as tuples are compared, not by length.
    ("x 0 0 1 1 x 2 2 3 4 x 3 4 5 5", "x 0 0 1 1 x 2 2 3 4 x 3 4 5 5"),
    ("x 0 1 1 0 x 2 2 3 4 x 3 4 5 5", "x 0 0 1 2 x 1 2 3 3 x 4 5 5 4"),
    # The least of each piece's walks.
    ("x 1 2 5 5 x 3 3 1 2", "x 0 0 1 2 x 1 2 3 3"), ("x 5 5 1 2 x 3 1 2 3", "x 0 0 1 2 x 3 1 2 3"),
    ("x 1 5 2 4 x 3 1 4 6 x 5 3 6 2", "x 0 1 2 3 x 4 0 3 5 x 1 4 5 2"),
)
# Texts of two webs of as many crossings, ends and rings that aren't alike.
UNLIKE = (
    # A crossing is told from its next place on.
    ("x 0 0 1 1", "x 0 1 1 0"), ("x 0 1 2 3 e 0 1 2 3", "x 1 2 3 0 e 0 1 2 3"),
    ("x 1 5 2 4 x 3 1 4 6 x 5 3 6 2", "x 1 5 2 4 x 1 4 6 3 x 5 3 6 2"),
    # Two places are exchanged, of one crossing and of two.
    ("x 0 0 1 1", "x 0 1 0 1"), ("x 0 1 2 3 e 0 1 2 3", "x 1 0 2 3 e 0 1 2 3"),
    ("x 1 5 2 4 x 3 1 4 6 x 5 3 6 2", "x 1 5 2 4 x 3 1 4 5 x 6 3 6 2"),
    # The ends are shifted, or two of them exchanged.
    ("e 0 1 1 0", "e 0 0 1 1"), ("x 0 1 2 3 e 0 1 2 3", "x 0 1 2 3 e 1 2 3 0"),
    ("x 0 1 2 3 e 0 1 2 3", "x 0 1 2 3 e 0 1 3 2"), ("x 0 0 1 2 e 1 2", "x 0 0 1 2 e 2 1"),
    # Pieces: one of two is another one; two are one.
    ("x 0 0 1 1 x 2 2 3 3", "x 0 0 1 1 x 2 3 3 2"), ("x 0 0 1 1 x 2 2 3 3", "x 0 0 1 2 x 1 2 3 3"),
    ("x 0 1 1 0 x 4 5 5 6 e 4 6", "x 0 0 1 1 x 4 5 5 6 e 4 6"),
)


def web_of_told(told):
    """Crossings that a walk tells, as a web's text."""
    return shown((told, (), 0))


def gates_of(web):
    """The gates of all pieces without ends."""
    return [(k, place) for piece in pieces(web) if -1 not in piece for k in piece for place in (0, 2)]


def webs_to_the_bounds(chance):
    """Webs of up to forty crossings, flat and other ones, of one and of many pieces."""
    told = [chance_web(chance, 40, ends, 20) for ends in (0, 8)] + [narrow_web(chance, 40, 8)]
    told += [flat_web(chance, 44, shut) for shut in (False, True)]
    return told + [side_by_side([chance_web(chance, chance.randint(1, 4), 0, 1) for _ in range(10)])]


def side_by_side(webs):
    """Webs as one, each with arcs of its own."""
    rows, ends, rings = (), (), 0
    for number, web in enumerate(webs):
        names = {arc: 100 * arc + number for arc in arcs_of(web)}
        rows += tuple(tuple(names[arc] for arc in row) for row in web[0])
        ends += tuple(names[arc] for arc in web[1])
        rings += web[2]
    return (rows, ends, rings)


def least_turn(row):
    """The least of all lists that begin elsewhere in a round."""
    return min(row[k:] + row[:k] for k in range(len(row)))


def rounds_of_arcs(web, names):
    """The faces of a web as rounds of arcs, each by its name."""
    there = {(k, j): names[arc] for k, row in enumerate(web[0]) for j, arc in enumerate(row)}
    there.update({(-1, j): names[arc] for j, arc in enumerate(web[1])})
    return sorted(least_turn([there[dart] for dart in face]) for face in faces(web))


def own_names(web):
    return {arc: arc for arc in arcs_of(web)}


def sums_or_none(function, web):
    try:
        return function(web)
    except TooWide:
        return None


class ToldBy(unittest.TestCase):
    def test_known(self):
        for text, gate, wanted in TOLD:
            self.assertEqual(web_of_told(told_by(read(text), gate)), wanted, (text, gate))

    def test_each_gate_of_small_webs(self):
        for web in itertools.chain(every_web(1, 0), every_web(2, 0), itertools.islice(every_web(3, 0), 0, None, 7)):
            for gate in gates_of(web):
                self.assertEqual(told_by(web, gate), told_again(web, gate), (web, gate))

    def test_each_gate_of_chance_webs(self):
        seen = Counter()
        for web in some_webs(random.Random(225), 150):
            for gate in gates_of(web):
                told = told_by(web, gate)
                self.assertEqual(told, told_again(web, gate), (web, gate))
                seen[len(told)] += 1
        self.assertTrue(min(seen[many] for many in range(1, 9)) > 0, seen)

    def test_to_the_bounds(self):
        for web in webs_to_the_bounds(random.Random(226)):
            for gate in gates_of(web)[::9]:
                self.assertEqual(told_by(web, gate), told_again(web, gate))

    def test_kinds_and_names(self):
        for web in some_webs(random.Random(227), 60):
            for gate in gates_of(web):
                told = told_by(web, gate)
                self.assertEqual(type(told), tuple)
                self.assertTrue(all(type(row) is tuple and all(type(arc) is int for arc in row) for row in told))
                self.assertEqual(named_anew((told, (), 0)), (told, (), 0))
                piece = next(piece for piece in pieces(web) if gate[0] in piece)
                self.assertEqual(len(told), len(piece))

    def test_gates_of_alike_pieces_tell_alike(self):
        chance = random.Random(228)
        for _ in range(40):
            web = chance_web(chance, chance.randint(1, 4), 0, 0)
            both = side_by_side([web, reworded(chance, web)])
            many = len(web[0])
            rows = [Counter(told_by(both, (k, place)) for k in numbers for place in (0, 2))
                    for numbers in (range(many), range(many, 2 * many))]
            self.assertEqual(rows[0], rows[1])


class Plain(unittest.TestCase):
    def test_known(self):
        for text, wanted in PLAIN:
            self.assertEqual(shown(plain(read(text))), wanted, text)

    def test_as_reckoned_again(self):
        for web in some_webs(random.Random(229), 250) + webs_to_the_bounds(random.Random(230)):
            self.assertEqual(plain(web), plain_again(web), web)

    def test_small_ones_as_reckoned_again(self):
        sizes = ((0, 4), (0, 6), (1, 0), (1, 2), (1, 4), (2, 0), (2, 2))
        for web in itertools.chain(*[every_web(crossings, ends) for crossings, ends in sizes]):
            self.assertEqual(plain(web), plain_again(web), web)

    def test_one_form_just_of_those_that_are_alike(self):
        # By trying all orders of the crossings, each told from its first and its third place on.
        for crossings, ends, step in ((1, 0, 1), (1, 2, 1), (1, 4, 1), (2, 0, 1), (2, 2, 1), (2, 4, 31), (3, 0, 23)):
            forms = {}
            for web in itertools.islice(every_web(crossings, ends), 0, None, step):
                forms.setdefault(plain(web), set()).add(least_wording(web))
            self.assertTrue(all(len(wordings) == 1 for wordings in forms.values()))
            self.assertEqual(len(set.union(*forms.values())), len(forms))

    def test_by_other_words(self):
        chance = random.Random(231)
        for web in some_webs(chance, 150) + webs_to_the_bounds(chance):
            form = plain(web)
            self.assertEqual(plain(form), form)
            self.assertEqual(named_anew(form), form)
            self.assertIsNone(check_web(form))
            for _ in range(3):
                self.assertEqual(plain(reworded(chance, web)), form, web)

    def test_pieces_in_any_order(self):
        chance = random.Random(232)
        for _ in range(60):
            webs = [chance_web(chance, chance.randint(0, 3), 0, chance.randrange(2)) for _ in range(3)]
            webs.append(webs[0])
            webs.append(chance_web(chance, chance.randint(0, 3), 4, 0))
            form = plain(side_by_side(webs))
            self.assertEqual(form, plain_again(side_by_side(webs)))
            chance.shuffle(webs)
            self.assertEqual(plain(side_by_side(webs)), form)

    def test_rises(self):
        # Behind the crossings of the piece with the rim each piece's telling is at least the one ahead of it.
        chance = random.Random(233)
        for _ in range(40):
            form = plain(side_by_side([chance_web(chance, chance.randint(1, 3), 0, 0) for _ in range(4)]))
            rows = [told_by(form, (piece[0], 0)) for piece in pieces(form)]
            self.assertEqual(rows, sorted(rows))
            for piece, row in zip(pieces(form), rows):
                self.assertEqual(piece, list(range(piece[0], piece[0] + len(piece))))
                self.assertEqual(row, min(told_again(form, (k, place)) for k in piece for place in (0, 2)))

    def test_kinds(self):
        for web in some_webs(random.Random(234), 40):
            form = plain(web)
            self.assertEqual([type(part) for part in (form,) + form], [tuple, tuple, tuple, int])
            self.assertTrue(all(type(row) is tuple for row in form[0]))
            self.assertEqual([len(part) for part in form[:2]] + [form[2]], [len(web[0]), len(web[1]), web[2]])


class Naming(unittest.TestCase):
    def test_known(self):
        self.assertEqual(naming(NOTHING, NOTHING), {})
        self.assertEqual(naming(((), (), 2), ((), (), 2)), {})
        self.assertEqual(naming(read("e 0 1 1 0"), read("e 8 5 5 8")), {0: 8, 1: 5})
        self.assertEqual(naming(read("x 0 1 2 3 e 0 1 2 3"), read("x 7 6 5 4 e 5 4 7 6")), {0: 5, 1: 4, 2: 7, 3: 6})
        self.assertEqual(naming(read("x 0 0 1 2 e 1 2"), read("x 3 4 8 8 e 3 4")), {0: 8, 1: 3, 2: 4})

    def test_alike(self):
        chance = random.Random(235)
        for web in some_webs(chance, 150) + webs_to_the_bounds(chance):
            other = reworded(chance, web)
            for one, two in ((web, other), (other, web), (web, web), (web, plain(web))):
                names = naming(one, two)
                self.assertEqual(type(names), dict)
                self.assertTrue(is_naming_again(one, two, names), (one, two))
                self.assertTrue(is_naming(one, two, names), (one, two))

    def test_unlike(self):
        for one, other in UNLIKE:
            one, other = read(one), read(other)
            self.assertEqual((len(one[0]), len(one[1]), one[2]), (len(other[0]), len(other[1]), other[2]))
            self.assertNotEqual(least_wording(one), least_wording(other))
            self.assertIsNone(naming(one, other), (one, other))
            self.assertIsNone(naming(other, one), (one, other))

    def test_a_ring_a_piece_or_an_arc_more(self):
        chance = random.Random(236)
        for web in some_webs(chance, 40):
            for more in (read("o 1"), read("x 0 0 1 1"), read("e 0 0"), read("x 0 0 1 2 e 1 2")):
                other = side_by_side([web, more])
                self.assertIsNone(naming(web, other))
                self.assertIsNone(naming(other, web))
                self.assertIsNone(naming(reworded(chance, web), reworded(chance, other)))

    def test_one_just_where_they_are_alike(self):
        chance = random.Random(237)
        seen = Counter()
        for crossings, ends in ((1, 2), (1, 4), (2, 0), (2, 2), (3, 0)):
            webs = [chance_web(chance, crossings, ends, 0) for _ in range(40)]
            for one, other in itertools.combinations(webs, 2):
                alike = least_wording(one) == least_wording(other)
                self.assertEqual(naming(one, other) is not None, alike, (one, other))
                if alike:
                    self.assertTrue(is_naming_again(one, other, naming(one, other)))
                seen[alike] += 1
        self.assertTrue(min(seen[True], seen[False]) > 100, seen)

    def test_one_place_changed(self):
        chance = random.Random(238)
        seen = Counter()
        for _ in range(200):
            web = chance_web(chance, chance.randint(1, 4), chance.choice((0, 2, 4)), 1)
            rows = [list(row) for row in web[0]] + [list(web[1])]
            one, other = chance.sample([(k, j) for k, row in enumerate(rows) for j in range(len(row))], 2)
            rows[one[0]][one[1]], rows[other[0]][other[1]] = rows[other[0]][other[1]], rows[one[0]][one[1]]
            exchanged = (tuple(tuple(row) for row in rows[:-1]), tuple(rows[-1]), 1)
            k = chance.randrange(len(web[0]))
            turned = (web[0][:k] + (web[0][k][1:] + web[0][k][:1],) + web[0][k + 1:], web[1], 1)
            half = shifted(web, len(web[1]) // 2)
            for word, near in (("exchanged", exchanged), ("turned", turned), ("shifted", half),
                               ("mirrored", mirrored(web))):
                near = reworded(chance, near)
                alike = least_wording(near) == least_wording(web)
                self.assertEqual(naming(web, near) is not None, alike, (web, near))
                seen[(word, alike)] += 1
        for word in ("exchanged", "turned", "shifted", "mirrored"):
            self.assertTrue(seen[(word, False)] > 20, seen)

    def test_a_new_dict(self):
        told = naming(TREFOIL, plain(TREFOIL))
        kept = dict(told)
        told[1] = 77
        told.clear()
        self.assertEqual(naming(TREFOIL, plain(TREFOIL)), kept)


class IsNaming(unittest.TestCase):
    def test_of_no_arcs(self):
        self.assertIs(is_naming(NOTHING, NOTHING, {}), True)
        self.assertIs(is_naming(((), (), 2), ((), (), 2), {}), True)
        self.assertIs(is_naming(((), (), 2), ((), (), 1), {}), False)
        self.assertIs(is_naming(NOTHING, NOTHING, {0: 0}), False)
        self.assertIs(is_naming(NOTHING, CURL, {}), False)
        self.assertIs(is_naming(CURL, NOTHING, {}), False)

    def test_known(self):
        one, other = read("x 0 1 2 3 e 0 1 2 3"), read("x 7 6 5 4 e 5 4 7 6")
        right = {0: 5, 1: 4, 2: 7, 3: 6}
        self.assertIs(is_naming(one, other, right), True)
        for wrong in ({}, {0: 5, 1: 4, 2: 7}, {1: 4, 2: 7, 3: 6}, {0: 5, 1: 4, 2: 7, 3: 6, 4: 3},
                      {0: 5, 1: 4, 2: 7, 4: 6}, {0: 5, 1: 4, 2: 7, 3: 7}, {0: 7, 1: 6, 2: 5, 3: 4},
                      {0: 5, 1: 6, 2: 7, 3: 4}, {0: 5, 1: 4, 2: 7, 3: 8}, {5: 0, 4: 1, 7: 2, 6: 3},
                      {0: 6, 1: 5, 2: 4, 3: 7}, {0: 0, 1: 1, 2: 2, 3: 3}, {0: 5, 1: 4, 2: 7, 3: -6}):
            self.assertIs(is_naming(one, other, wrong), False, wrong)

    def test_all_dicts_of_small_webs(self):
        seen = Counter()
        pairs = [("x 0 0 1 1", "x 2 2 3 3"), ("x 0 0 1 1", "x 2 3 3 2"), ("x 0 1 0 1", "x 3 2 3 2"),
                 ("e 0 1 1 0", "e 3 2 2 3"), ("x 0 0 1 2 e 1 2", "x 2 3 4 4 e 2 3"),
                 ("x 0 1 2 3 e 0 1 2 3", "x 4 3 2 5 e 2 5 4 3"),
                 ("x 0 1 2 3 x 2 3 0 1", "x 2 3 4 5 x 2 3 4 5"), ("x 0 1 2 3 x 1 0 3 2", "x 3 2 5 4 x 2 3 4 5"),
                 ("x 0 0 1 1 x 2 2 3 3", "x 4 4 2 2 x 5 5 3 3"), ("x 0 1 2 3 x 2 3 0 1", "x 2 3 4 5 x 3 4 5 2"),
                 ("x 0 1 2 3 x 0 1 2 3", "x 2 3 4 5 x 2 5 4 3")]
        for one, other in [(read(one), read(other)) for one, other in pairs]:
            arcs = arcs_of(one)
            for row in itertools.product(range(1, 6), repeat=len(arcs)):
                names = dict(zip(arcs, row))
                told = is_naming(one, other, names)
                self.assertIs(told, is_naming_again(one, other, names), (one, other, names))
                seen[told] += 1
        self.assertTrue(seen[True] >= 15 and seen[False] > 1000, seen)

    def test_near_to_one(self):
        chance = random.Random(239)
        seen = Counter()
        for web in [web for web in some_webs(chance, 120) if arcs_of(web)] + webs_to_the_bounds(chance):
            other = reworded(chance, web)
            right = naming(web, other)
            arc, near = chance.choice(arcs_of(web)), chance.choice(arcs_of(web))
            lacking = {one: two for one, two in right.items() if one != arc}
            fresh = max(arcs_of(web) + arcs_of(other)) + 1
            for word, names in (("lacking", lacking), ("more", {**right, fresh: fresh}),
                                ("doubled", {**right, fresh: right[arc]}), ("one for two", {**right, arc: right[near]}),
                                ("no arc", {**right, arc: fresh}),
                                ("exchanged", {**right, arc: right[near], near: right[arc]}), ("none", {}),
                                ("itself", own_names(web)), ("back", {two: one for one, two in right.items()})):
                wanted = is_naming_again(web, other, names)
                self.assertIs(is_naming(web, other, names), wanted, (word, web, other, names))
                seen[(word, wanted)] += 1
        for word in ("lacking", "more", "doubled", "one for two", "no arc", "exchanged", "none", "itself", "back"):
            self.assertTrue(seen[(word, False)] > 40, seen)
        self.assertTrue(seen[("exchanged", True)] > 10)
        for word in ("lacking", "more", "doubled", "no arc"):
            self.assertEqual(seen[(word, True)], 0)

    def test_unlike_webs(self):
        chance = random.Random(240)
        for web in some_webs(chance, 60):
            names = own_names(web)
            self.assertIs(is_naming(web, web, names), True)
            rows, ends, rings = web
            self.assertIs(is_naming(web, (rows, ends, rings + 1), names), False)
            self.assertIs(is_naming((rows, ends, rings + 1), web, names), False)
            if ends:
                self.assertIs(is_naming(web, (rows, ends[::-1], rings), names), ends == ends[::-1])
            if rows:
                again = (rows[:-1] + (rows[-1][1:] + rows[-1][:1],), ends, rings)
                self.assertIs(is_naming(web, again, names), is_naming_again(web, again, names))
                less = (rows[:-1], ends, rings)
                self.assertIs(is_naming(web, less, names), False)
                self.assertIs(is_naming(web, (rows + rows[-1:], ends, rings), names), False)


class Alike(unittest.TestCase):
    """What alike webs have in common."""

    def test_reckoned(self):
        chance = random.Random(241)
        narrow = 0
        for web in some_webs(chance, 100) + [narrow_web(chance, 14, 6) for _ in range(10)]:
            other = reworded(chance, web)
            names = naming(web, other)
            self.assertEqual(sorted(sorted(names[arc] for arc in strand) for strand in strands(web)), strands(other))
            self.assertEqual(how_strung(web), how_strung(other))
            self.assertEqual((links(web), turns(web)), (links(other), turns(other)))
            for m in (2, 3, 4, 7, 60):
                self.assertEqual(colours(web, m), colours(other, m))
            self.assertEqual(rounds_of_arcs(web, names), rounds_of_arcs(other, own_names(other)))
            for function in (sums, own_sums):
                told, again = sums_or_none(function, web), sums_or_none(function, other)
                if told is not None and again is not None:
                    self.assertEqual(told, again)
                    narrow += 1
        self.assertTrue(narrow > 100, narrow)

    def test_of_the_plain_form(self):
        for web in (TREFOIL, FIGURE_EIGHT, HOPF, SINGLE):
            self.assertEqual(sums(plain(web)), sums(web))
            self.assertEqual(turns(plain(web)), turns(web))
            self.assertFalse(alike_webs(web, mirrored(web)))

    def test_knots_and_their_mirrors(self):
        for web in (TREFOIL, SINGLE):
            self.assertIsNone(naming(web, mirrored(web)))
        # The figure of eight, and two rings that are linked, are the same where what lay above lies beneath.
        for web in (FIGURE_EIGHT, HOPF):
            self.assertTrue(is_naming_again(web, mirrored(web), naming(web, mirrored(web))))


class Stays(unittest.TestCase):
    def test_what_is_handed_in(self):
        for web in some_webs(random.Random(242), 40):
            names = own_names(web)
            kept = copy.deepcopy((web, names))
            plain(web)
            naming(web, web)
            is_naming(web, web, names)
            for gate in gates_of(web):
                told_by(web, gate)
            self.assertEqual((web, names), kept)
            self.assertEqual(list(names), list(kept[1]))

    def test_told_again(self):
        for web in KNOWN:
            self.assertEqual(plain(web), plain(web))
            self.assertIsNone(refused(plain, web))


if __name__ == "__main__":
    unittest.main()
