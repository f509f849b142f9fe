"""[2], [38]: rows of paces, gone on and back; what is no pace."""

import copy
import random
import unittest
from collections import Counter

from tanglehouse.errors import BadPace, NoTurning, NoWeb, Odd
from tanglehouse.paces import gone
from tanglehouse.plain import plain
from tanglehouse.stores import sums
from tanglehouse.strands import how_strung, links, turns
from tanglehouse.texts import read, shown
from tanglehouse.turnings import turned, turnings
from tanglehouse.webs import check_web, mirrored
from tests.helper import CURL, HOPF, KNOWN, NOTHING, OTHER_THINGS, TREFOIL
from tests.helper import arcs_of, as_told, chance_row, chance_web, flat_web, least_wording, refused, reworded
from tests.helper import some_webs, sums_again, sums_times_curls, turnable, turned_again, weight_again

CURLED = "x 0 0 1 2 e 1 2"
SLID = "x 0 1 2 3 x 4 1 0 5 e 2 3 5 4"
THREE = "x 0 2 3 4 x 1 0 5 6 x 8 2 1 7 e 3 4 5 6 7 8"
THREE_OVER = "x 0 1 2 3 x 4 5 6 2 x 6 7 8 3 e 5 7 8 0 1 4"
SLIDE = ("slide", ((0, 0), (1, 1)))
OVER = ("over", ((0, 0), (1, 0), (2, 1)))


def curl(k, i):
    return ("curl", ((k, i),))


# A web's text, paces as tuples (word, text, turning), the text of the web that is come to, and the weight.
GONE = (
    (CURLED, [], CURLED, 0), ("x 7 8 9 9 e 7 8 o 3", [], "x 7 8 9 9 e 7 8 o 3", 0), ("", [], "", 0),
    # On: as it stands, and by other names, told from the third place on.
    (CURLED, [("on", CURLED, curl(0, 0))], "e 0 0", 1),
    (CURLED, [("on", "x 7 8 9 9 e 7 8", curl(0, 2))], "e 0 0", 1),
    ("x 5 6 6 7 e 5 7", [("on", "x 0 1 1 2 e 0 2", curl(0, 1))], "e 0 0", -1),
    ("x 5 6 6 7 e 5 7", [("on", "x 1 2 0 1 e 0 2", curl(0, 3))], "e 0 0", -1),
    (SLID, [("on", SLID, SLIDE)], "e 0 1 1 0", 0), (THREE, [("on", THREE, OVER)], THREE_OVER, 0),
    ("x 0 0 1 1", [("on", "x 3 3 2 2", curl(0, 0))], "o 1", 1),
    ("x 0 1 1 0", [("on", "x 0 1 1 0", curl(0, 1))], "o 1", -1),
    # Back: to the very web of the pace.
    ("e 4 4", [("back", "x 7 8 9 9 e 7 8", curl(0, 2))], "x 7 8 9 9 e 7 8", -1),
    ("e 4 4", [("back", "x 5 6 6 7 e 5 7", curl(0, 1))], "x 5 6 6 7 e 5 7", 1),
    ("e 4 2 2 4", [("back", SLID, SLIDE)], SLID, 0), (THREE_OVER, [("back", THREE, OVER)], THREE, 0),
    ("o 1", [("back", "x 3 3 2 2", curl(0, 0))], "x 3 3 2 2", -1),
    # On and back.
    ("x 0 0 1 1", [("on", "x 0 0 1 1", curl(0, 2)), ("back", "x 8 9 9 8", curl(0, 3))], "x 8 9 9 8", 2),
    ("x 0 1 1 0", [("on", "x 0 1 1 0", curl(0, 3)), ("back", "x 8 8 9 9", curl(0, 0))], "x 8 8 9 9", -2),
    ("e 0 0", [("back", "x 0 1 1 2 e 0 2", curl(0, 1)), ("on", "x 1 2 0 1 e 0 2", curl(0, 3))], "e 0 0", 0),
    ("e 0 0 o 1", [("back", "x 0 0 1 2 e 1 2 o 1", curl(0, 0)), ("back", "x 0 0 1 1 x 2 2 3 4 e 3 4", curl(0, 0)),
                   ("on", "x 0 0 1 1 x 2 2 3 4 e 3 4", curl(0, 2))], "x 0 0 1 2 e 1 2 o 1", -1),
    (THREE, [("on", THREE, OVER), ("on", THREE_OVER, ("over", ((0, 2), (1, 2), (2, 3))))],
     "x 0 1 2 3 x 4 0 5 6 x 7 1 4 8 e 2 3 5 6 8 7", 0),
)
# One pace each from the web CURLED that is none there.
BAD = (
    (), ("on",), ("on", read(CURLED)), ("on", read(CURLED), curl(0, 0), 0), ("on", read(CURLED), curl(0, 0), 1),
    ["on", read(CURLED), curl(0, 0)], {0: "on", 1: read(CURLED), 2: curl(0, 0)}, "on", read(CURLED), curl(0, 0),
    (read(CURLED), curl(0, 0)), ("curl", read(CURLED), curl(0, 0)), ("On", read(CURLED), curl(0, 0)),
    ("", read(CURLED), curl(0, 0)), (None, read(CURLED), curl(0, 0)), (0, read(CURLED), curl(0, 0)),
    (True, read(CURLED), curl(0, 0)), (["on"], read(CURLED), curl(0, 0)), ({"on": 1}, read(CURLED), curl(0, 0)),
    (("on",), read(CURLED), curl(0, 0)), ("onback", read(CURLED), curl(0, 0)), ("o", read(CURLED), curl(0, 0)),
    (read(CURLED), "on", curl(0, 0)), ("on", curl(0, 0), read(CURLED)), ("on", CURLED, curl(0, 0)),
    # No web, and webs of odd arcs.
    ("on", None, curl(0, 0)), ("on", [((0, 0, 1, 2),), (1, 2), 0], curl(0, 0)),
    ("on", ([(0, 0, 1, 2)], (1, 2), 0), curl(0, 0)), ("on", (([0, 0, 1, 2],), (1, 2), 0), curl(0, 0)),
    ("on", ((0, 0, 1, 2), (1, 2), 0), curl(0, 0)), ("on", (((0, 0, 1, 2),), [1, 2], 0), curl(0, 0)),
    ("on", (((0, 0, 1, 2),), (1, 2), False), curl(0, 0)), ("on", (((0, 0, 1, 2),), (1, 2), -1), curl(0, 0)),
    ("on", (((False, False, True, 2),), (True, 2), 0), curl(0, 0)), ("on", (((0, 0, 1, 2),), (1, 2)), curl(0, 0)),
    ("on", (((0, 0, 1),), (1,), 0), curl(0, 0)), ("on", (((0, 0, 1, 2),), (1, 2, 3), 0), curl(0, 0)),
    ("on", (((0, 0, 1, 2),), (1, 1), 0), curl(0, 0)), ("on", (((0, 0, 1, 2),), (), 0), curl(0, 0)),
    ("back", (((0, 0, 1, 2),), (1, 2, 3), 0), curl(0, 0)), ("back", (((0, 0, 1, 2),), (1, 1), 0), curl(0, 0)),
    # What is no turning of that web.
    ("on", read(CURLED), None), ("on", read(CURLED), "curl"), ("on", read(CURLED), ()), ("on", read(CURLED), []),
    ("on", read(CURLED), ["curl", ((0, 0),)]), ("on", read(CURLED), ("curl", [(0, 0)])),
    ("on", read(CURLED), ("curl", (0, 0))), ("on", read(CURLED), ("curl", ([0, 0],))),
    ("on", read(CURLED), curl(0, 1)), ("on", read(CURLED), curl(0, 2)), ("on", read(CURLED), curl(1, 0)),
    ("on", read(CURLED), curl(0, 4)), ("on", read(CURLED), curl(0, -4)), ("on", read(CURLED), curl(-1, 0)),
    ("on", read(CURLED), ("slide", ((0, 0),))), ("on", read(CURLED), SLIDE),
    ("on", read(CURLED), ("curl", ((0, 0), (0, 0)))), ("on", read(CURLED), ("curl", ((0, 0),), 1)),
    ("on", read("x 1 2 0 0 e 1 2"), curl(0, 0)),
    # Truths for numbers in a turning.
    ("on", read(CURLED), curl(False, 0)), ("on", read(CURLED), curl(0, False)),
    ("on", read(CURLED), curl(False, False)), ("back", read("x 0 0 1 2 x 1 2 3 4 e 3 4"), curl(False, 0)),
    # Webs that aren't alike to the one at hand.
    ("on", read("x 0 0 1 2 e 2 1"), curl(0, 0)), ("on", read("x 0 0 1 2 e 1 2 o 1"), curl(0, 0)),
    ("on", read("x 0 0 1 1"), curl(0, 0)), ("on", read("x 0 1 1 2 e 0 2"), curl(0, 1)),
    ("on", read("x 0 0 1 2 x 3 3 4 4 e 1 2"), curl(0, 0)), ("on", read("x 0 0 1 2 e 1 2 3 3"), curl(0, 0)),
    # Backs whose turning leads elsewhere, or leads from the web at hand.
    ("back", read(CURLED), curl(0, 0)), ("back", read("x 0 0 1 2 x 1 2 3 4 e 4 3"), curl(0, 0)),
    ("back", read("x 0 0 1 2 x 1 2 3 4 e 3 4 o 1"), curl(0, 0)),
    ("back", read("x 0 0 1 2 x 4 1 2 3 e 3 4"), curl(0, 0)),
    ("back", read("x 0 0 1 1 x 2 2 3 4 e 3 4"), curl(0, 0)), ("back", read(SLID), SLIDE),
)


def row_of(paces):
    return [(word, read(text), turning) for word, text, turning in paces]


class Gone(unittest.TestCase):
    def test_known(self):
        for text, paces, wanted, weight in GONE:
            self.assertEqual(gone(read(text), row_of(paces)), (read(wanted), weight), (text, paces))

    def test_no_paces(self):
        for web in some_webs(random.Random(243), 40):
            self.assertEqual(gone(web, []), (web, 0))

    def test_chance_rows(self):
        chance = random.Random(244)
        seen = Counter()
        for web in some_webs(chance, 150) + [flat_web(chance, 12, True) for _ in range(40)]:
            row, wanted, weight = chance_row(chance, web, chance.randint(1, 8))
            self.assertEqual(gone(web, row), (wanted, weight), (web, row))
            seen.update((word, turning[0]) for word, _, turning in row)
        for pair in (("on", "curl"), ("on", "slide"), ("on", "over"), ("back", "curl"), ("back", "slide")):
            self.assertTrue(seen[pair] > 20, seen)

    def test_each_turning_on_and_back(self):
        chance = random.Random(245)
        for web, turning in turnable(chance, 2, 7, 6):
            made = turned_again(web, turning)
            weight = weight_again(turning)
            self.assertEqual(gone(reworded(chance, web), [("on", web, turning)]), (made, weight))
            self.assertEqual(gone(reworded(chance, made), [("back", web, turning)]), (web, -weight))
            again = [("on", web, turning), ("back", web, turning), ("on", web, turning)]
            self.assertEqual(gone(reworded(chance, web), again), (made, weight))

    def test_rows_reversed_lead_back(self):
        chance = random.Random(246)
        for web in some_webs(chance, 60):
            row, end, weight = chance_row(chance, web, 5)
            back = [("back" if word == "on" else "on", near, turning) for word, near, turning in reversed(row)]
            told = gone(reworded(chance, end), back)
            self.assertEqual(told[1], -weight)
            self.assertEqual(plain(told[0]), plain(web))

    def test_to_the_bounds(self):
        chance = random.Random(247)
        web = flat_web(chance, 44, False)
        row = []
        here = web
        for _ in range(12):
            near = reworded(chance, here)
            known = turnings(near)
            if not known:
                break
            row.append(("on", near, chance.choice(known)))
            here = turned_again(*row[-1][1:])
        self.assertEqual(gone(web, row), (here, sum(weight_again(turning) for _, _, turning in row)))
        self.assertTrue(len(row) == 12 and len(web[0]) > 30)

    def test_kinds(self):
        told = gone(CURL, [("on", CURL, curl(0, 0))])
        self.assertEqual([type(told), type(told[0]), type(told[1])], [tuple, tuple, int])
        told = gone(((), (), 1), [("back", CURL, curl(0, 0))])
        self.assertEqual([type(told), type(told[0]), type(told[1])], [tuple, tuple, int])


class Sums(unittest.TestCase):
    def test_as_by_walking(self):
        chance = random.Random(248)
        many = 0
        for _ in range(60):
            web = chance_web(chance, chance.randint(0, 3), 2 * chance.randint(0, 3), chance.randint(0, 2))
            row, end, _ = chance_row(chance, web, 3)
            told, weight = gone(web, row)
            if len(told[0]) < 7:
                many += 1
                again = as_told(sums_again(told))
                self.assertEqual(as_told(sums_again(web)), sums_times_curls(again, weight), (web, row))
                self.assertEqual(how_strung(web), how_strung(told))
                self.assertEqual(links(web), links(told))
                self.assertEqual(turns(web), turns(told) + weight)
        self.assertTrue(many > 30)

    def test_part_by_part(self):
        chance = random.Random(249)
        for _ in range(40):
            web = flat_web(chance, 14, chance.randrange(2) == 0)
            row, end = [], web
            for _ in range(5):
                near = reworded(chance, end)
                known = turnings(near)
                if known:
                    row.append(("on", near, chance.choice(known)))
                    end = turned(*row[-1][1:])
            told, weight = gone(web, row)
            self.assertEqual(sums(web), sums_times_curls(sums(told), weight))


class Refused(unittest.TestCase):
    def refused_at(self, at, web, row):
        self.assertEqual(refused(gone, web, row), (BadPace, {"at": at}), (web, row))

    def test_known(self):
        for thing in BAD:
            self.refused_at(0, read(CURLED), [thing])

    def test_at_the_first_place(self):
        good = ("on", read(CURLED), curl(0, 0))
        back = ("back", read(CURLED), curl(0, 0))
        for thing in BAD:
            # Behind a row that leads to CURLED again, and ahead of others, good and bad.
            self.refused_at(0, read(CURLED), [thing, good])
            self.refused_at(0, read(CURLED), [thing, thing])
            self.refused_at(2, read(CURLED), [good, back, thing])
            self.refused_at(4, read(CURLED), [good, back, good, back, thing, good, thing])
        self.refused_at(1, read(CURLED), [good, good])
        self.refused_at(1, read("e 0 0"), [back, back])
        self.refused_at(0, read("e 0 0"), [good])

    def test_any_things(self):
        deep = 0
        for _ in range(29):
            deep = [deep]
        things = OTHER_THINGS + ("", "on", "back", (), (0,), (0, 1, 2), ("on", "on", "on"), ((), (), ()), deep)
        for web in KNOWN:
            for thing in things:
                self.refused_at(0, web, [thing])
                self.refused_at(0, web, [thing, thing])
                for pace in ((thing, web, curl(0, 0)), ("on", thing, curl(0, 0)), ("on", web, thing),
                             ("back", web, thing), ("back", thing, curl(0, 0)), ("on", web, ("curl", thing)),
                             ("on", web, (thing, ((0, 0),))), ("on", web, ("curl", (thing,))), (thing, thing, thing),
                             ("on", ((thing,) + web[0], web[1], web[2]), curl(0, 0)),
                             ("on", (web[0], web[1] + (thing,), web[2]), curl(0, 0))):
                    # The curl has a turning there, where it is told on from itself.
                    if pace[:2] != ("on", web) or pace[2] != curl(0, 0):
                        self.refused_at(0, web, [pace])

    def test_near_to_a_pace(self):
        chance = random.Random(250)
        for web, turning in turnable(chance, 1, 4, 4):
            made = turned_again(web, turning)
            for other in (mirrored(web), (web[0], web[1], web[2] + 1), (web[0], web[1][::-1], web[2]), made):
                wanted = None if least_wording(other) == least_wording(web) else (BadPace, {"at": 0})
                self.assertEqual(refused(gone, other, [("on", web, turning)]), wanted, (other, web, turning))
            for other in (mirrored(made), (made[0], made[1], made[2] + 1), (made[0], made[1][::-1], made[2]), web):
                wanted = None if least_wording(other) == least_wording(made) else (BadPace, {"at": 0})
                self.assertEqual(refused(gone, other, [("back", web, turning)]), wanted, (other, web, turning))

    def test_one_pace_of_a_row_spoilt(self):
        chance = random.Random(251)
        many = 0
        for web in some_webs(chance, 80):
            row, _, _ = chance_row(chance, web, 5)
            if row:
                at = chance.randrange(len(row))
                word, near, turning = row[at]
                truths = (turning[0], tuple((bool(k), i) if k < 2 else (k, bool(i)) for k, i in turning[1]))
                for spoilt in ((word, near), (word, near, turning, turning), [word, near, turning],
                               ("off", near, turning), (word, near, truths),
                               (word, (near[0], near[1] + (0,), near[2]), turning),
                               (word, (near[0], near[1], near[2] + 1), turning), None):
                    self.refused_at(at, web, row[:at] + [spoilt] + row[at + 1:])
                    many += 1
        self.assertTrue(many > 400)

    def test_only_so(self):
        # What a pace's parts are refused with isn't told; the pace is.
        self.assertEqual(refused(check_web, (((0, 0, 1, 2),), (1, 1), 0))[0], Odd)
        self.assertEqual(refused(check_web, (((0, 0, 1),), (1,), 0))[0], NoWeb)
        self.assertEqual(refused(turned, TREFOIL, curl(0, 0))[0], NoTurning)
        self.refused_at(0, TREFOIL, [("on", TREFOIL, curl(0, 0))])
        self.refused_at(0, HOPF, [("on", HOPF, ("slide", ((0, 0), (1, 0))))])
        self.refused_at(0, NOTHING, [("on", NOTHING, ("curl", ()))])


class Stays(unittest.TestCase):
    def test_row(self):
        chance = random.Random(252)
        for web in some_webs(chance, 40):
            row, _, _ = chance_row(chance, web, 4)
            kept = copy.deepcopy((web, row))
            told = gone(web, row)
            self.assertEqual((web, row), kept)
            row.append(None)
            row[0] = None
            self.assertEqual(told, gone(web, kept[1]))

    def test_row_that_is_refused(self):
        row = [("on", read(CURLED), curl(0, 0)), ["on", [], {}], {0: [1]}]
        kept = copy.deepcopy(row)
        self.assertEqual(refused(gone, read(CURLED), row), (BadPace, {"at": 1}))
        self.assertEqual(row, kept)

    def test_told_again(self):
        row = [("back", CURL, curl(0, 0)), ("on", CURL, curl(0, 2))]
        for _ in range(3):
            self.assertEqual(gone(((), (), 1), row), (((), (), 1), 0))
        self.assertEqual(shown(gone(((), (), 1), row)[0]), "o 1")
        self.assertEqual(arcs_of(gone(((), (), 1), row[:1])[0]), [0, 1])


if __name__ == "__main__":
    unittest.main()
