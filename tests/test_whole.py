"""[1], [2], [3]: what is promised over the whole program, over webs, parts, lists and turnings together."""

import copy
import importlib
import itertools
import random
import unittest
from collections import Counter

from tanglehouse import errors
from tanglehouse.colours import colours
from tanglehouse.desk import Desk
from tanglehouse.easing import eased, led, least_list, step
from tanglehouse.errors import TangleError
from tanglehouse.faces import check_flat, faces, holes, pieces
from tanglehouse.fractions import pair, taken, twisted, twisted_sums, value
from tanglehouse.gluedsums import glued_sums, mirrored_sums, shifted_sums, shut_sums
from tanglehouse.gluing import above, beside, closed, glued, quarter, shut
from tanglehouse.paces import gone
from tanglehouse.parts import Above, Beside, Level, Mirrored, Single, Turned, Upright, read_part
from tanglehouse.plain import naming, plain
from tanglehouse.polynomials import lifted, minus, plus, times, turned_about
from tanglehouse.polytexts import read_polynomial, shown_polynomial
from tanglehouse.stores import check_narrow, fronts, stores, sums
from tanglehouse.strands import how_strung, links, own_sums, strands, turns
from tanglehouse.telling import compared, shelf
from tanglehouse.texts import read, shown
from tanglehouse.turnings import turned, turnings, weight_of
from tanglehouse.ways import plain_sums
from tanglehouse.webs import check_web, mirrored, named_anew, shifted
from tests.helper import CURL, HOPF, SINGLE, TORUS, TREFOIL, WIDE
from tests.helper import arcs_of, as_told, chance_list, chance_row, chance_tree, chance_web, flat_web, narrow_web
from tests.helper import part_of, refusal, refused, reworded, small_lists, some_webs, sums_again, sums_times_curls
from tests.helper import turned_again, turnings_again, value_again
from tests.test_interface import FUNCTIONS

SLID = read("x 0 1 2 3 x 4 1 0 5 e 2 3 5 4")
SLIDE = ("slide", ((0, 0), (1, 1)))
RING = ((), (), 1)
TWO_RINGS = ((), (), 2)
CURL_AWAY = ("curl", ((0, 0),))
SINGLE_SUMS = {((0, 1), (2, 3)): ((1, 1),), ((0, 3), (1, 2)): ((-1, 1),)}
# For each function of the interface calls of it, each a tuple of what is handed in.
CALLS = {
    "webs": {"check_web": [(TREFOIL,)], "places": [(TREFOIL,), (SLID,)], "named_anew": [(TREFOIL,)],
             "mirrored": [(TREFOIL,)], "shifted": [(SLID, 2)], "alike_webs": [(TREFOIL, HOPF)]},
    "texts": {"shown": [(TREFOIL,)], "read": [("x 0 0 1 1 o 2",)]},
    "faces": {"twin": [(TREFOIL, (0, 0))], "behind": [(TREFOIL, (0, 0))], "faces": [(TREFOIL,), (SLID,)],
              "pieces": [(TREFOIL,), (SLID,)], "holes": [(TORUS,)], "check_flat": [(TREFOIL,)]},
    "polynomials": {"is_polynomial": [(((0, 1),),), ([[0, 1]],)], "plus": [(((0, 1),), ((1, 2),))],
                    "minus": [(((0, 1),), ((1, 2),))], "times": [(((0, 1),), ((1, 2),))], "lifted": [(((0, 1),), 3)],
                    "turned_about": [(((0, 1), (2, 3)),)]},
    "polytexts": {"shown_polynomial": [(((0, 1), (2, 3)),)], "read_polynomial": [("1 - x",)]},
    "ways": {"opened": [(TREFOIL, (0, 1, 0))], "weight": [((0, 1, 1), 2)], "plain_sums": [(TREFOIL,), (SLID,)]},
    "stores": {"order_of": [(TREFOIL,)], "fronts": [(TREFOIL,), (SLID,)], "check_narrow": [(TREFOIL,)],
               "stores": [(TREFOIL,), (SLID,)], "sums": [(TREFOIL,), (SLID,)]},
    "gluing": {"shut": [(SLID, 3)], "glued": [(SLID, SINGLE, 2)], "beside": [(SLID, SINGLE)], "above": [(SLID, SINGLE)],
               "quarter": [(SLID,)], "closed": [(SLID, 1)]},
    "gluedsums": {"shifted_sums": [(SINGLE_SUMS, 4, 1), (SINGLE_SUMS, 4, 0)], "mirrored_sums": [(SINGLE_SUMS,)],
                  "shut_sums": [(SINGLE_SUMS, 4, 2)], "glued_sums": [(SINGLE_SUMS, 4, SINGLE_SUMS, 4, 2),
                                                                    (SINGLE_SUMS, 4, {(): ((0, 1),)}, 0, 0)]},
    "parts": {"read_part": [("(turned single)",)]},
    "fractions": {"pair": [(Beside(Single(), Turned(Single())),)], "taken": [(((0, 1), (9, 3)),)],
                  "value": [([2, -3],)], "twisted": [([2, -3],)], "twisted_sums": [([2, -3],)]},
    "easing": {"step": [([2, 0, 3], ("nought", 1))], "led": [([2, 0, 3], [("nought", 1)]), ([2, 3], [])],
               "least_list": [((7, 3),), ((1, 0),)], "eased": [([2, 0, -4, 1],), ([0, 0],), ([2, 2],)]},
    "turnings": {"turnings": [(SLID,), (CURL,)], "turned": [(SLID, SLIDE)], "weight_of": [(SLIDE,)]},
    "strands": {"strands": [(TREFOIL,), (SLID,)], "how_strung": [(SLID,)], "turns": [(TREFOIL,)], "links": [(HOPF,)],
                "own_sums": [(TREFOIL,), (SLID,)]},
    "colours": {"is_colouring": [(CURL, 3, {0: 1, 1: 1}), (CURL, 3, {0: 1})], "colours": [(TREFOIL, 3)]},
    "plain": {"told_by": [(TREFOIL, (1, 2))], "plain": [(TREFOIL,), (SLID,)],
              "naming": [(TREFOIL, TREFOIL), (CURL, HOPF)],
              "is_naming": [(CURL, CURL, {0: 1, 1: 0}), (CURL, CURL, {0: 0})]},
    "paces": {"gone": [(CURL, [("on", CURL, CURL_AWAY)]), (CURL, []), (RING, [("back", CURL, CURL_AWAY)])]},
    "telling": {"shelf": [(CURL, 1), (CURL, 5)],
                "compared": [(CURL, RING), (TREFOIL, HOPF), (TREFOIL, mirrored(TREFOIL)), (TREFOIL, RING),
                             (HOPF, TWO_RINGS), (CURL, RING, 1)]},
}
# A call that is refused by each class, and the field that it bears.
REFUSALS = {
    "NoWeb": (check_web, ([],), {}), "Odd": (check_web, ((((4, 4, 3, 4),), (), 0),), {"arc": 3}),
    "NoText": (read, ("x 1 2",), {"at": 3}), "NotFlat": (check_flat, (TORUS,), {"holes": 1}),
    "TooMany": (plain_sums, (read(WIDE),), {}), "TooWide": (sums, (read(WIDE),), {"crossing": 4}),
    "NoStep": (step, ([2, 3], ("one", 0)), {}), "NoTurning": (turned, (TREFOIL, SLIDE), {}),
    "BadPace": (gone, (CURL, [("on", CURL, CURL_AWAY), None]), {"at": 1}), "NoMatch": (compared, (CURL, SINGLE), {}),
    "NoName": (Desk().say, ("show knot",), {"name": "knot"}), "NoRow": (Desk().say, ("show",), {}),
}
# Calls by which two refusals are due, and the class of the one that is told first.
BOTH_DUE = (
    (check_web, ((((0, 0, 0, 1),), (2,), True),), "NoWeb"), (read, ("x 0 0 0 1 o 0",), "NoText"),
    (read, ("e 3 o",), "NoText"), (gone, (CURL, [("on", (((0, 0, 0, 1),), (), 0), SLIDE)]), "BadPace"),
    (compared, (read(WIDE), SINGLE), "NoMatch"),
    (Desk().say, ("turn knot 00",), "NoRow"), (Desk().say, ("turn knot 7",), "NoName"),
    (Desk().say, ("web A x",), "NoRow"), (Desk().say, ("tell one two",), "NoName"),
    (Desk().say, ("web a x 0 0 0 1 x",), "NoText"),
)


def spoil(thing):
    """Changes all lists and dicts within a thing."""
    if isinstance(thing, (list, tuple)):
        for part in thing:
            spoil(part)
    if isinstance(thing, dict):
        for part in list(thing.values()):
            spoil(part)
        thing.clear()
        thing["spoilt"] = 1
    if isinstance(thing, list):
        thing.clear()
        thing.append("spoilt")


def all_calls():
    for module, rows in CALLS.items():
        for name, calls in rows.items():
            for given in calls:
                yield getattr(importlib.import_module("tanglehouse." + module), name), given


def is_part(thing):
    return hasattr(thing, "written")


def as_compared(thing):
    """A thing, or a part's text, so that what is told twice can be compared."""
    return thing.written() if is_part(thing) else thing


class Handed(unittest.TestCase):
    """[2]"""

    def test_each_function_is_called(self):
        for module, rows in FUNCTIONS.items():
            names = [row.partition("(")[0] for row in rows if row[0].islower()]
            self.assertEqual(sorted(CALLS.get(module, {})), sorted(names), module)

    def test_nothing_is_changed(self):
        for function, given in all_calls():
            kept = copy.deepcopy([as_compared(thing) for thing in given])
            function(*given)
            self.assertEqual([as_compared(thing) for thing in given], kept, function)

    def test_what_is_told_is_the_askers_own(self):
        changed = 0
        for function, given in all_calls():
            kept = copy.deepcopy([as_compared(thing) for thing in given])
            told = function(*given)
            wanted = copy.deepcopy(as_compared(told))
            spoil(told)
            changed += as_compared(told) != wanted
            self.assertEqual(as_compared(function(*given)), wanted, function)
            self.assertEqual([as_compared(thing) for thing in given], kept, function)
        self.assertTrue(changed > 25, changed)

    def test_what_is_done_behind_the_call_changes_nothing(self):
        for function, given in all_calls():
            if not any(is_part(thing) for thing in given):
                handed = copy.deepcopy(given)
                told = function(*handed)
                wanted = copy.deepcopy(as_compared(told))
                spoil(handed)
                self.assertEqual(as_compared(told), wanted, function)
                self.assertEqual(as_compared(function(*given)), wanted, function)

    def test_asked_in_any_order(self):
        calls = list(all_calls())
        first = [copy.deepcopy(as_compared(function(*given))) for function, given in calls]
        random.Random(273).shuffle(calls)
        for function, given in calls:
            function(*given)
        again = [as_compared(function(*given)) for function, given in all_calls()]
        self.assertEqual(again, first)

    def test_sums_of_parts(self):
        part = Above(Single(), Mirrored(Beside(Level(), Upright())))
        told = part.sums()
        wanted = copy.deepcopy(told)
        spoil(told)
        self.assertEqual(part.sums(), wanted)


class Refusals(unittest.TestCase):
    """[2]"""

    def test_each_class_with_its_field(self):
        for name, (function, given, fields) in REFUSALS.items():
            error = refusal(function, *given)
            self.assertIs(type(error), getattr(errors, name))
            self.assertEqual(vars(error), fields)
            self.assertIsInstance(error, TangleError)
            self.assertIsInstance(error, ValueError)
            others = [other for other in REFUSALS if isinstance(error, getattr(errors, other))]
            self.assertEqual(others, [name])
            self.assertEqual(type(error).__bases__, (TangleError,))

    def test_all_classes(self):
        kinds = [kind for kind in vars(errors).values() if isinstance(kind, type) and kind is not TangleError]
        self.assertEqual(sorted(kind.__name__ for kind in kinds), sorted(REFUSALS))

    def test_the_one_told_first_goes_first(self):
        for function, given, name in BOTH_DUE:
            self.assertIs(refused(function, *given)[0], getattr(errors, name), (function, given))


class Webs(unittest.TestCase):
    """[3]: written and read; flat or not; sums."""

    def test_written_and_read(self):
        chance = random.Random(274)
        for web in some_webs(chance, 60) + [plain(web) for web in some_webs(chance, 30)]:
            self.assertEqual(read(shown(web)), web)
        for _ in range(20):
            web = part_of(chance_tree(chance, 5, 12)).web()
            self.assertEqual(read(shown(web)), web)
        for web in [flat_web(chance, 12, True) for _ in range(20)]:
            for turning in turnings(web):
                made = turned(web, turning)
                self.assertEqual(read(shown(made)), made)

    def test_flat_by_faces(self):
        # Corners round a crossing, edges and faces come to twice the pieces where a web is flat (Euler).
        for web in some_webs(random.Random(275), 100):
            rim = 1 if web[1] else 0
            euler = len(web[0]) + rim - len(arcs_of(web)) + len(faces(web))
            self.assertEqual(2 * len(pieces(web)) - euler, 2 * holes(web))
            self.assertEqual(refused(check_flat, web) is None, holes(web) == 0)

    def test_what_is_put_together_of_flat_webs_is_flat(self):
        chance = random.Random(276)
        for _ in range(60):
            one, other = [flat_web(chance, chance.randint(2, 9), False) for _ in range(2)]
            made = [glued(one, other, many) for many in range(min(len(one[1]), len(other[1])) + 1)]
            made += [shut(one, place) for place in range(len(one[1]))] + [mirrored(one), shifted(one, len(one[1]) // 2)]
            made += [plain(one), named_anew(one)]
            made += [turned(web, turning) for web in list(made) for turning in turnings(web)]
            made += shelf(one, 5)
            for web in made:
                self.assertIsNone(check_flat(web))
        for _ in range(40):
            one, other = [part_of(chance_tree(chance, 3, 4)).web() for _ in range(2)]
            for web in (above(one, other), beside(one, other), quarter(one), closed(one, 0), closed(other, 1)):
                self.assertIsNone(check_flat(web))

    def test_part_by_part_as_plainly(self):
        chance = random.Random(277)
        narrow = 0
        for _ in range(80):
            web = chance_web(chance, chance.randint(0, 6), 2 * chance.randint(0, 3), chance.randrange(3))
            wanted = as_told(sums_again(web))
            self.assertEqual(plain_sums(web), wanted)
            for again in (web, reworded(chance, web), plain(web), named_anew(web)):
                if refused(check_narrow, again) is None:
                    narrow += 1
                    self.assertEqual(sums(again), wanted)
                    for front, (_, store) in zip(fronts(again), stores(again)):
                        most = 1
                        for odd in range(1, len(front), 2):
                            most *= odd
                        self.assertLessEqual(len(store), most)
                        self.assertLessEqual(len(front), 8)
        self.assertTrue(narrow > 200)

    def test_many_crossings_by_other_words(self):
        chance = random.Random(278)
        many = 0
        for web in [narrow_web(chance, 30, 4) for _ in range(8)] + [flat_web(chance, 34, False) for _ in range(8)]:
            again = reworded(chance, web)
            if refused(check_narrow, web) is None and refused(check_narrow, again) is None:
                many += 1
                self.assertEqual(sums(again), sums(web))
                self.assertEqual(sums(mirrored(web)), mirrored_sums(sums(web)))
        self.assertTrue(many > 5, many)


class PutTogether(unittest.TestCase):
    """[3]: the sums of what is put together hang on the sums of both alone."""

    def test_every_way(self):
        chance = random.Random(279)
        for _ in range(40):
            one, other = [chance_web(chance, chance.randint(0, 3), 2 * chance.randint(0, 3), chance.randrange(2))
                          for _ in range(2)]
            ones, others = sums(one), sums(other)
            for many in range(min(len(one[1]), len(other[1])) + 1):
                made = glued(one, other, many)
                told = glued_sums(ones, len(one[1]), others, len(other[1]), many)
                self.assertEqual(told, plain_sums(made))
                if len(made[1]) <= 8:
                    self.assertEqual(told, sums(made))
            for place in range(len(one[1])):
                self.assertEqual(shut_sums(ones, len(one[1]), place), plain_sums(shut(one, place)))
            for many in range(len(one[1]) + 1):
                self.assertEqual(shifted_sums(ones, len(one[1]), many), plain_sums(shifted(one, many)))
            self.assertEqual(mirrored_sums(ones), plain_sums(mirrored(one)))

    def test_turned_ahead_or_behind(self):
        # A turning of one web, done ahead of gluing it or behind: the sums differ by its weight alone.
        chance = random.Random(280)
        many = 0
        for _ in range(60):
            one, other = flat_web(chance, 9, False), flat_web(chance, 6, False)
            most = min(len(one[1]), len(other[1]))
            made = glued(one, other, most)
            for turning in turnings(one):
                many += 1
                before = glued(turned(one, turning), other, most)
                self.assertIn(turning, turnings(made))
                self.assertEqual(plain(turned(made, turning)), plain(before))
                told = glued_sums(sums(one), len(one[1]), sums(other), len(other[1]), most)
                self.assertEqual(told, sums_times_curls(sums(before), weight_of(turning)))
        self.assertTrue(many > 40, many)


class PartsAndLists(unittest.TestCase):
    """[3]: pairs, fractions, lists of twists."""

    def test_parts(self):
        chance = random.Random(281)
        for _ in range(80):
            part = part_of(chance_tree(chance, 4, chance.randint(0, 9)))
            told = part.sums()
            web = part.web()
            self.assertEqual(told, plain_sums(web))
            self.assertEqual(read_part(part.written()).web(), web)
            p, q, m = pair(part)
            for number, power, joining in ((q, m, ((0, 3), (1, 2))), (p, m + 2, ((0, 1), (2, 3)))):
                self.assertEqual(taken(told.get(joining, ())), taken(((power, number),) if number else ()))

    def test_pairs_of_lists(self):
        # The part of a list: its pair is its value, but for a sign of both and what divides both.
        for twists in small_lists(2, 4):
            part = None
            for number in twists:
                part = Level() if part is None else Turned(part)
                for _ in range(abs(number)):
                    part = Beside(part, Single() if number > 0 else Mirrored(Single()))
            p, q, _ = pair(part)
            top, bottom = value(twists)
            self.assertIn((p, q), ((top, bottom), (-top, -bottom)))
            self.assertEqual(part.web(), twisted(twists))
            told = part.sums()
            self.assertEqual(twisted_sums(twists), (told.get(((0, 3), (1, 2)), ()), told.get(((0, 1), (2, 3)), ())))

    def test_one_value_just_where_eased_to_one_list(self):
        by_value, by_list = {}, {}
        for twists in small_lists(2, 4):
            steps, least = eased(twists)
            self.assertEqual(least, least_list(value(twists)))
            made, weight = led(twists, steps)
            self.assertEqual(made, least)
            level, upright = twisted_sums(least)
            again = sums_times_curls({0: level, 1: upright}, weight)
            self.assertEqual(twisted_sums(twists), (again[0], again[1]))
            by_value.setdefault(value_again(twists), set()).add(tuple(least))
            by_list.setdefault(tuple(least), set()).add(value_again(twists))
        self.assertTrue(all(len(rows) == 1 for rows in by_value.values()))
        self.assertTrue(all(len(rows) == 1 for rows in by_list.values()))

    def test_tangles_of_one_value_are_never_told_apart(self):
        chance = random.Random(282)
        seen = Counter()
        for _ in range(60):
            twists = chance_list(chance, chance.randint(1, 5), chance.randint(0, 9))
            steps, least = eased(twists)
            for number in range(len(steps) + 1):
                row = led(twists, steps[:number])[0]
                if sum(abs(one) for one in row) <= 12:
                    told = compared(twisted(twists), twisted(row), 10)
                    self.assertNotEqual(told[0], "apart", (twists, row))
                    seen[told[0]] += 1
        self.assertTrue(min(seen["alike"], seen["open"]) > 5, seen)

    def test_tangles_of_unlike_values_are_never_told_alike(self):
        chance = random.Random(283)
        seen = Counter()
        for _ in range(80):
            one, other = [chance_list(chance, chance.randint(1, 4), chance.randint(0, 6)) for _ in range(2)]
            told = compared(twisted(one), twisted(other), 20)
            if value(one) != value(other):
                self.assertNotEqual(told[0], "alike", (one, other))
                seen[told[:2] if told[0] == "apart" else told[0]] += 1
        self.assertTrue(seen[("apart", "sums")] > 0 and seen[("apart", "strung")] > 0, seen)

    def test_the_desk_eases_as_well(self):
        desk = Desk()
        for twists in itertools.islice(small_lists(3, 3), 0, None, 5):
            told = desk.say("ease " + " ".join(str(number) for number in twists))
            self.assertEqual([int(word) for word in told.split(" ")], eased(twists)[1])


class Turning(unittest.TestCase):
    """[3]: what stays by turnings; alike, apart or open."""

    def test_what_stays(self):
        chance = random.Random(284)
        many = Counter()
        for _ in range(60):
            web = flat_web(chance, 12, chance.randrange(2) == 0)
            for turning in turnings(web):
                made = turned(web, turning)
                weight = weight_of(turning)
                many[turning[0]] += 1
                self.assertEqual(sums(web), sums_times_curls(sums(made), weight))
                self.assertEqual(own_sums(web), own_sums(made))
                for m in (2, 3, 4, 9, 60):
                    self.assertEqual(colours(web, m), colours(made, m))
                self.assertEqual((how_strung(web), links(web)), (how_strung(made), links(made)))
                self.assertEqual(turns(made), turns(web) - weight)
                closed_ones = len(strands(made)) + made[2] - len(made[1]) // 2
                self.assertEqual(how_strung(web)[0], closed_ones)
        self.assertTrue(min(many[word] for word in ("curl", "slide", "over")) > 20, many)

    def test_alike_apart_or_open(self):
        chance = random.Random(285)
        seen = Counter()
        webs = [flat_web(chance, 9, True) for _ in range(14)] + [TREFOIL, mirrored(TREFOIL), HOPF, RING, TWO_RINGS]
        for one, other in itertools.product(webs, repeat=2):
            told = compared(one, other)
            seen[told[0]] += 1
            if told[0] == "alike":
                end, weight = gone(one, told[1])
                self.assertIsNotNone(naming(end, other))
                self.assertEqual(sums(one), sums_times_curls(sums(other), weight))
            if told[0] == "apart":
                has = {"strung": how_strung, "links": links, "sums": lambda web: sorted(own_sums(web).items()),
                       "colours": lambda web: [colours(web, m) for m in (3, 5, 7)]}[told[1]]
                self.assertEqual(told[2:], (has(one), has(other)))
                self.assertNotEqual(told[2], told[3])
            if told[0] != "alike":
                self.assertFalse(set(shelf(one, 20)) & set(shelf(other, 20)))
            if told[0] == "open":
                self.assertEqual(told[1:], (len(shelf(one, 20)), len(shelf(other, 20))))
        self.assertTrue(min(seen["alike"], seen["apart"]) > 20, seen)

    def test_rows_of_paces_of_parts(self):
        chance = random.Random(286)
        for _ in range(40):
            web = part_of(chance_tree(chance, 3, chance.randint(0, 4))).web()
            row, wanted, _ = chance_row(chance, web, 4)
            end, weight = gone(web, row)
            self.assertEqual(end, wanted)
            self.assertEqual(sums(web), sums_times_curls(plain_sums(end) if len(end[0]) < 11 else sums(end), weight))
            self.assertNotEqual(compared(web, end, 5)[0], "apart")

    def test_at_the_desk(self):
        # Laid, turned and told at the desk, as without it.
        chance = random.Random(287)
        for _ in range(20):
            web = flat_web(chance, 10, chance.randrange(2) == 0)
            desk = Desk()
            desk.say("web old " + shown(web))
            desk.say("web new " + shown(web))
            weight = 0
            while turnings_again(web):
                number = chance.randrange(len(turnings_again(web)))
                if turnings_again(web)[number][0] == "over":
                    break
                weight += int(desk.say("turn new " + str(number)).split(" ")[1])
                web = turned_again(web, turnings_again(web)[number])
            self.assertEqual(desk.say("show new"), shown(web))
            self.assertEqual(int(desk.say("turns old")), int(desk.say("turns new")) + weight)
            self.assertEqual(desk.say("links old"), desk.say("links new"))
            self.assertEqual(desk.say("colours old 12"), desk.say("colours new 12"))
            self.assertNotEqual(desk.say("tell old new").split(" ")[0], "apart")


class Polynomials(unittest.TestCase):
    """[3]: sums as texts, and reckoned with."""

    def test_sums_written_and_read(self):
        chance = random.Random(288)
        for web in [flat_web(chance, 20, True) for _ in range(20)]:
            for one in sums(web).values():
                self.assertEqual(read_polynomial(shown_polynomial(one)), one)
                self.assertEqual(turned_about(turned_about(one)), one)
                self.assertEqual(plus(minus(one, one), lifted(one, 3)), times(one, ((3, 1),)))

    def test_at_one(self):
        # At x = 1 opening a crossing by both ways is, but for a sign, going straight on: so no diagram is without sums.
        for web in some_webs(random.Random(289), 60):
            while web[1]:
                web = shut(web, 0)
            total = sum(number for one in plain_sums(web).values() for _, number in one)
            self.assertEqual(total, (-1) ** len(web[0]) * (-2) ** how_strung(web)[0])


if __name__ == "__main__":
    unittest.main()
