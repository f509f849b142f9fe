"""[2], [39], [40]: shelves; webs told alike, apart or open."""

import copy
import inspect
import itertools
import random
import unittest
from collections import Counter

from tanglehouse.colours import colours
from tanglehouse.errors import NoMatch, TooWide
from tanglehouse.fractions import twisted
from tanglehouse.gluing import beside, closed, quarter
from tanglehouse.paces import gone
from tanglehouse.plain import naming, plain
from tanglehouse.stores import fronts
from tanglehouse.strands import how_strung, links, own_sums, turns
from tanglehouse.telling import compared, shelf
from tanglehouse.texts import read, shown
from tanglehouse.turnings import turned, turnings
from tanglehouse.webs import mirrored
from tests.helper import CURL, FIGURE_EIGHT, HOPF, KNOWN, MEET_AT_20, MEET_AT_21, NOTHING, SINGLE, TREFOIL, WIDE
from tests.helper import as_told, chance_row, chance_web, flat_web, is_naming_again, plain_again, refused, reworded
from tests.helper import shelf_again, some_webs, sums_again, sums_times_curls, turned_again, turnings_again
from tests.helper import weight_again, with_curl, with_slide

# A web's text and the texts of all forms on its shelf.
SHELVES = (
    ("", [""]), ("o 3", ["o 3"]), ("e 4 2 2 4", ["e 0 1 1 0"]), ("x 9 8 7 6 e 7 6 9 8", ["x 0 1 2 3 e 0 1 2 3"]),
    ("x 5 5 6 6", ["x 0 0 1 1", "o 1"]), ("x 1 2 0 0 e 1 2 o 2", ["x 0 1 2 2 e 0 1 o 2", "e 0 0 o 2"]),
    ("x 0 1 2 3 x 4 1 0 5 e 2 3 5 4", ["x 0 1 2 3 x 2 4 5 3 e 0 1 4 5", "e 0 1 1 0"]),
    # Two curls: without the one, without the other, without both, each form once.
    ("x 0 0 1 1 x 2 3 3 2", ["x 0 0 1 1 x 2 3 3 2", "x 0 1 1 0 o 1", "x 0 0 1 1 o 1", "o 2"]),
    ("x 0 0 1 1 x 2 2 3 3", ["x 0 0 1 1 x 2 2 3 3", "x 0 0 1 1 o 1", "o 2"]),
    ("x 1 5 2 4 x 3 1 4 6 x 5 3 6 2", ["x 0 1 2 3 x 4 0 3 5 x 1 4 5 2"]),
)
WIDE_WITH_ENDS = "x 0 1 2 3 x 4 5 6 7 x 8 9 10 5 x 11 9 12 8 x 0 13 7 11 e 10 6 12 4 13 1 3 2"
RING = ((), (), 1)
LEFT_SUMS = [((), ((-18, 1), (-10, -1), (-6, -1), (-2, -1)))]
RIGHT_SUMS = [((), ((2, -1), (6, -1), (10, -1), (18, 1)))]
SINGLE_SUMS = [(((0, 1), (2, 3)), ((1, 1),)), (((0, 3), (1, 2)), ((-1, 1),))]
MIRRORED_SUMS = [(((0, 1), (2, 3)), ((-1, 1),)), (((0, 3), (1, 2)), ((1, 1),))]
# Two webs' texts, the word that parts them, and what each has.
APART = (
    ("x 1 5 2 4 x 3 1 4 6 x 5 3 6 2", "x 4 1 3 2 x 2 3 1 4", "strung", (1, ()), (2, ())),
    ("", "o 1", "strung", (0, ()), (1, ())),
    ("e 0 1 1 0", "e 0 0 1 1", "strung", (0, ((0, 3), (1, 2))), (0, ((0, 1), (2, 3)))),
    ("e 0 1 1 0 o 1", "x 0 1 2 3 e 0 1 2 3", "strung", (1, ((0, 3), (1, 2))), (0, ((0, 2), (1, 3)))),
    ("x 4 1 3 2 x 2 3 1 4", "o 2", "links", [2], []),
    ("x 4 1 3 2 x 2 3 1 4 o 1", "x 4 1 3 2 x 2 3 1 5 x 5 6 7 8 x 6 4 8 7", "links", [2], [2, 2]),
    ("x 1 5 2 4 x 3 1 4 6 x 5 3 6 2", "x 4 2 5 1 x 8 6 1 5 x 6 3 7 4 x 2 7 3 8", "colours", [9, 5, 7], [3, 25, 7]),
    ("x 1 5 2 4 x 3 1 4 6 x 5 3 6 2", "o 1", "colours", [9, 5, 7], [3, 5, 7]),
    ("x 1 5 2 4 x 3 1 4 6 x 5 3 6 2", "x 5 2 4 1 x 1 4 6 3 x 3 6 2 5", "sums", LEFT_SUMS, RIGHT_SUMS),
    ("x 0 1 2 3 e 0 1 2 3", "x 1 2 3 0 e 0 1 2 3", "sums", SINGLE_SUMS, MIRRORED_SUMS),
)


def texts_of(webs):
    return [shown(web) for web in webs]


def small_webs(chance, many, crossings):
    """Webs by chance, flat and other ones, of few crossings."""
    told = [chance_web(chance, chance.randint(0, crossings), 2 * chance.randint(0, 2), chance.randrange(2))
            for _ in range(many)]
    return told + [flat_web(chance, chance.randint(3, crossings + 4), chance.randrange(2) == 0) for _ in range(many)]


def turned_often(chance, web, many):
    """A web that comes of a web by laying curls and slides and by turnings, by other names."""
    for _ in range(many):
        known = turnings_again(web)
        if known and (chance.randrange(2) or len(web[0]) > 5):
            web = turned_again(web, chance.choice(known))
        elif web[0] or web[1]:
            web = (with_slide if chance.randrange(2) and len(web[0]) > 1 else with_curl)(chance, web)[0]
    return reworded(chance, web)


def sums_apart(web):
    """The own sums of a web, over all ways, as they are told."""
    return sorted(sums_times_curls(as_told(sums_again(web)), -turns(web)).items())


def twist_rows(numbers):
    """For each number so many half twists one above the other, these beside one another, closed above and beneath."""
    made = quarter(twisted([numbers[0]]))
    for number in numbers[1:]:
        made = beside(made, quarter(twisted([number])))
    return closed(made, 0)


def three_colours(web):
    return [colours(web, m) for m in (3, 5, 7)]


def widest(web):
    """How many arcs the widest front of a web has."""
    return max([len(front) for front in fronts(web)], default=0)


def compared_again(one, other, most):
    """What two webs are told by, reckoned again: None in the place of a row."""
    ones, others = shelf_again(one, most), shelf_again(other, most)
    if any(form in others for form in ones):
        return ("alike", None)
    words = [("strung", how_strung), ("links", links), ("colours", three_colours)]
    if max(widest(one), widest(other)) <= 8:
        words.append(("sums", sums_apart))
    for word, has in words:
        if has(one) != has(other):
            return ("apart", word, has(one), has(other))
    return ("open", len(ones), len(others))


class Shelf(unittest.TestCase):
    def test_known(self):
        for text, wanted in SHELVES:
            for most in (1, 2, 3, 4, 5, 200):
                self.assertEqual(texts_of(shelf(read(text), most)), wanted[:most], (text, most))

    def test_as_reckoned_again(self):
        chance = random.Random(253)
        longest = 0
        for web in small_webs(chance, 60, 6):
            every = shelf_again(web, 60)
            for most in (1, 2, 3, 7, 60):
                self.assertEqual(shelf(web, most), every[:most], (web, most))
            longest = max(longest, len(every))
        self.assertEqual(longest, 60)

    def test_ends_where_there_are_no_more(self):
        chance = random.Random(254)
        many = Counter()
        for web in small_webs(chance, 60, 5):
            every = shelf_again(web, 10 ** 6)
            self.assertEqual(shelf(web, 10 ** 6), every)
            self.assertEqual(shelf(web, len(every)), every)
            self.assertEqual(shelf(web, len(every) + 1), every)
            self.assertEqual(shelf(web, len(every) - 1) if len(every) > 1 else [], every[:-1])
            # Nothing leads out of it.
            for form in every:
                for turning in turnings(form):
                    self.assertIn(plain(turned(form, turning)), every)
            many[len(every) > 5] += 1
        self.assertTrue(min(many[True], many[False]) > 10, many)

    def test_twelve_crossings(self):
        chance = random.Random(255)
        seen = 0
        while seen < 6:
            web = flat_web(chance, 16, seen % 2 == 0)
            if len(web[0]) == 12:
                seen += 1
                told = shelf(web, 25)
                self.assertEqual(told, shelf_again(web, 25))
                self.assertEqual(shelf(web, 200)[:25], told)
        self.assertEqual(len(shelf(chance_web(chance, 12, 8, 20), 1)), 1)

    def test_each_once_plain_and_rising_in_no_crossings(self):
        chance = random.Random(256)
        for web in small_webs(chance, 20, 7):
            told = shelf(web, 40)
            self.assertEqual(type(told), list)
            self.assertEqual(len(set(told)), len(told))
            self.assertEqual(told[0], plain_again(web))
            for form in told:
                self.assertEqual(plain_again(form), form)
                self.assertLessEqual(len(form[0]), len(web[0]))
                self.assertEqual((how_strung(form), links(form)), (how_strung(web), links(web)))

    def test_of_alike_webs(self):
        chance = random.Random(257)
        for web in small_webs(chance, 30, 6):
            self.assertEqual(shelf(reworded(chance, web), 30), shelf(web, 30))

    def test_a_new_list(self):
        told = shelf(CURL, 5)
        kept = list(told)
        told.append(None)
        told[0] = None
        self.assertEqual(shelf(CURL, 5), kept)


class Alike(unittest.TestCase):
    def check_row(self, one, other, told):
        """A row that gone lets by, from the one to a web alike to the other."""
        self.assertEqual([type(told), len(told), told[0], type(told[1])], [tuple, 2, "alike", list])
        end, weight = gone(one, told[1])
        self.assertTrue(is_naming_again(end, other, naming(end, other)), (one, other, told))
        self.assertEqual(weight, turns(one) - turns(other))
        here = one
        for word, web, turning in told[1]:
            self.assertIn(turning, turnings_again(web))
            ends = [web, turned_again(web, turning)]
            near, far = ends if word == "on" else reversed(ends)
            self.assertEqual(plain_again(near), plain_again(here))
            here = far
        self.assertEqual(plain_again(here), plain_again(other))
        signs = {"on": 1, "back": -1}
        self.assertEqual(weight, sum(signs[word] * weight_again(turning) for word, _, turning in told[1]))

    def test_a_web_and_itself(self):
        chance = random.Random(258)
        for web in list(KNOWN) + some_webs(chance, 20) + [read(WIDE)]:
            for most in (1, 2, 200):
                self.check_row(web, web, compared(web, web, most))
            again = reworded(chance, web)
            self.check_row(web, again, compared(web, again, 1))
            self.check_row(web, again, compared(web, again))

    def test_known(self):
        plus, minus = read("x 0 0 1 1"), read("x 0 1 1 0")
        self.check_row(plus, RING, compared(plus, RING, 2))
        self.check_row(RING, plus, compared(RING, plus, 2))
        self.assertEqual(gone(plus, compared(plus, RING, 2)[1]), (RING, 1))
        self.assertEqual(gone(RING, compared(RING, plus, 2)[1])[1], -1)
        # The ring stands only behind a turning of each.
        self.check_row(plus, minus, compared(plus, minus, 2))
        self.assertEqual([pace[0] for pace in compared(plus, minus, 2)[1]], ["on", "back"])
        self.assertEqual(gone(plus, compared(plus, minus, 2)[1])[1], 2)
        self.assertEqual(gone(minus, compared(minus, plus, 2)[1])[1], -2)

    def test_known_knots(self):
        chance = random.Random(259)
        for web in (TREFOIL, FIGURE_EIGHT, HOPF, SINGLE):
            curled = [with_curl(chance, with_slide(chance, web)[0])[0] for _ in range(4)]
            for one, other in itertools.product(curled + [web], repeat=2):
                self.check_row(one, other, compared(one, other, 60))

    def test_only_behind_turnings_of_both(self):
        chance = random.Random(260)
        many = 0
        for web in small_webs(chance, 40, 3):
            one, other = [turned_often(chance, web, 3) for _ in range(2)]
            ones, others = shelf(one, 60), shelf(other, 60)
            if ones[0] not in others and others[0] not in ones and set(ones) & set(others):
                many += 1
                told = compared(one, other, 60)
                self.check_row(one, other, told)
                words = [pace[0] for pace in told[1]]
                self.assertEqual(words, sorted(words, reverse=True))
                self.assertEqual(set(words), {"on", "back"})
        self.assertTrue(many > 10, many)

    def test_behind_several_turnings(self):
        chance = random.Random(261)
        longest = 0
        for _ in range(30):
            web = TREFOIL
            for _ in range(4):
                web = (with_curl if chance.randrange(2) else with_slide)(chance, web)[0]
            for one, other in ((web, TREFOIL), (TREFOIL, web)):
                told = compared(one, other, 200)
                if told[0] == "alike":
                    self.check_row(one, other, told)
                    longest = max(longest, len(told[1]))
                self.assertNotEqual(told[0], "apart")
        self.assertTrue(longest > 3, longest)


class Apart(unittest.TestCase):
    def test_known(self):
        for one, other, word, first, second in APART:
            one, other = read(one), read(other)
            for most in (1, 20, 200):
                self.assertEqual(compared(one, other, most), ("apart", word, first, second))
                self.assertEqual(compared(other, one, most), ("apart", word, second, first))

    def test_first_word(self):
        # By all four words; by all but the first one; by the last two.
        both = [(TREFOIL, HOPF), (HOPF, ((), (), 2)), (TREFOIL, FIGURE_EIGHT)]
        for (one, other), word in zip(both, ("strung", "links", "colours")):
            self.assertEqual(compared(one, other)[:2], ("apart", word))
            self.assertEqual(links(one) == links(other), word == "colours")
            self.assertNotEqual(three_colours(one), three_colours(other))
            self.assertNotEqual(own_sums(one), own_sums(other))

    def test_by_each_of_the_numbers(self):
        # Knots of 3, 5 and 7 crossings, twisted in one row: with more colours than a ring by just one number.
        for many, wanted in ((3, [9, 5, 7]), (5, [3, 25, 7]), (7, [3, 5, 49])):
            knot = closed(twisted([many]), 0)
            self.assertEqual(compared(knot, RING), ("apart", "colours", wanted, [3, 5, 7]))
            self.assertEqual(compared(RING, knot), ("apart", "colours", [3, 5, 7], wanted))

    def test_kinds(self):
        told = compared(TREFOIL, mirrored(TREFOIL))
        self.assertEqual([type(part) for part in told], [str, str, list, list])
        for joining, one in told[2] + told[3]:
            self.assertEqual([type(joining), type(one)], [tuple, tuple])

    def test_new_lists(self):
        for one, other in ((HOPF, ((), (), 2)), (TREFOIL, RING), (TREFOIL, mirrored(TREFOIL))):
            told = compared(one, other)
            kept = copy.deepcopy(told)
            told[2].append(7)
            told[3].clear()
            self.assertEqual(compared(one, other), kept)
        told = compared(CURL, RING)
        kept = copy.deepcopy(told)
        told[1].clear()
        self.assertEqual(compared(CURL, RING), kept)


class Open(unittest.TestCase):
    def test_known(self):
        curled = read("x 0 0 1 1 x 2 3 3 2")
        self.assertEqual(compared(curled, ((), (), 2), 3), ("open", 3, 1))
        self.assertEqual(compared(((), (), 2), curled, 3), ("open", 1, 3))
        self.assertEqual(compared(curled, ((), (), 2), 1), ("open", 1, 1))
        self.assertEqual(compared(curled, ((), (), 2), 4)[0], "alike")

    def test_by_the_default(self):
        one, other = [read(text) for text in MEET_AT_20]
        self.assertEqual(compared(one, other, 19)[:2], ("open", 19))
        self.assertEqual([compared(one, other, 20)[0], compared(one, other)[0]], ["alike", "alike"])
        one, other = [read(text) for text in MEET_AT_21]
        self.assertEqual(compared(one, other), ("open", 20, 2))
        self.assertEqual(compared(other, one), ("open", 2, 20))
        self.assertEqual([compared(one, other, 20)[0], compared(one, other, 21)[0]], ["open", "alike"])
        self.assertEqual(str(inspect.signature(compared)), "(one, other, most=20)")

    def test_too_wide(self):
        wide = read(WIDE)
        self.assertEqual(refused(own_sums, wide), (TooWide, {"crossing": 4}))
        for one, other in ((wide, RING), (RING, wide), (wide, mirrored(wide)), (mirrored(wide), wide)):
            self.assertEqual(compared(one, other), ("open", 1, 1))
        # Of two with as many ends, the one or both too wide.
        web = read(WIDE_WITH_ENDS)
        self.assertEqual(refused(own_sums, web)[0], TooWide)
        self.assertEqual([compared(web, mirrored(web)), compared(mirrored(web), web)], [("open", 1, 1)] * 2)
        self.assertEqual(compared(web, web)[0], "alike")
        # By other words they are parted all the same.
        self.assertEqual(compared(wide, TREFOIL), ("apart", "colours", [3, 5, 7], [9, 5, 7]))
        self.assertEqual(compared(wide, HOPF), ("apart", "strung", (1, ()), (2, ())))
        self.assertEqual(compared(TREFOIL, wide), ("apart", "colours", [9, 5, 7], [3, 5, 7]))

    def test_twelve_crossings(self):
        # Rows of twists beside one another, two of them exchanged: neither has a turning, and nothing here parts them.
        for first, second in (((3, 1, 3, 1), (3, 3, 1, 1)), ((2, 3, 2, 4), (2, 2, 3, 4)),
                              ((3, -2, 5, 2), (3, 5, -2, 2))):
            for most in (1, 20, 200):
                self.assertEqual(compared(twist_rows(first), twist_rows(second), most), ("open", 1, 1))
        # Turned about by half in the plane the one is the other.
        self.assertEqual(compared(twist_rows((3, 4, 5)), twist_rows((5, 4, 3)), 1), ("alike", []))


class AllOfIt(unittest.TestCase):
    def test_as_reckoned_again(self):
        chance = random.Random(262)
        seen = Counter()
        webs = small_webs(chance, 60, 4) + [read(WIDE_WITH_ENDS)]
        pairs = [(one, chance.choice([web for web in webs if len(web[1]) == len(one[1])])) for one in webs]
        pairs += [(one, turned_often(chance, one, 3)) for one in webs if len(one[0]) < 4]
        pairs += [(one, mirrored(one)) for one in webs]
        for one, other in pairs:
            seen["wide"] += max(widest(one), widest(other)) > 8
            for most in (1, 3, 30):
                told, again = compared(one, other, most), compared_again(one, other, most)
                self.assertEqual(told[:1] + (None,) if told[0] == "alike" else told, again, (one, other, most))
                if told[0] == "alike":
                    Alike.check_row(self, one, other, told)
                turned_round = compared(other, one, most)
                self.assertEqual(turned_round[0], told[0])
                if told[0] != "alike":
                    self.assertEqual(turned_round, told[:-2] + (told[-1], told[-2]))
                seen[told[0] if told[0] != "apart" else told[1]] += 1
        for word in ("alike", "open", "strung", "links", "colours", "sums", "wide"):
            self.assertTrue(seen[word] > 0, seen)

    def test_never_apart_where_a_row_leads(self):
        chance = random.Random(263)
        seen = Counter()
        for web in small_webs(chance, 60, 5):
            row, _, _ = chance_row(chance, web, chance.randint(1, 5))
            end = reworded(chance, gone(web, row)[0])
            for most in (1, 2, 30):
                told = compared(web, end, most)
                self.assertNotEqual(told[0], "apart", (web, end))
                if told[0] == "alike":
                    Alike.check_row(self, web, end, told)
                seen[told[0]] += 1
        self.assertTrue(min(seen["alike"], seen["open"]) > 5, seen)


class NoMatches(unittest.TestCase):
    def test_unlike_numbers_of_ends(self):
        for one, other in itertools.product(list(KNOWN) + [read("e 0 0"), read("x 0 0 1 2 e 1 2")], repeat=2):
            wanted = None if len(one[1]) == len(other[1]) else (NoMatch, {})
            self.assertEqual(refused(compared, one, other), wanted, (one, other))
            self.assertEqual(refused(compared, one, other, 1), wanted, (one, other))
        self.assertEqual(refused(compared, ((), (0, 0), 0), NOTHING, 200), (NoMatch, {}))


class Stays(unittest.TestCase):
    def test_what_is_handed_in(self):
        chance = random.Random(264)
        webs = small_webs(chance, 10, 4)
        kept = copy.deepcopy(webs)
        for one, other in itertools.product(webs, repeat=2):
            refused(compared, one, other, 5)
            shelf(one, 5)
        self.assertEqual(webs, kept)


if __name__ == "__main__":
    unittest.main()
