"""[2], [3], [26], [27], [28]: steps of lists of twists, rows of steps, least lists and easing."""

import copy
import itertools
import math
import random
import unittest
from collections import Counter

from tanglehouse.easing import eased, least_list, led, step
from tanglehouse.errors import NoStep
from tanglehouse.fractions import twisted, twisted_sums, value
from tanglehouse.ways import plain_sums
from tests.helper import OTHER_THINGS
from tests.helper import chance_list, chance_lists, refused, small_lists, sums_times_curls, times_curls, value_again

REFUSED = (NoStep, {})
WORDS = ("one", "less", "nought", "loose", "split")
# A list, a step of it, the list that comes, the weight.
STEPS = (
    ([1, 5], ("one", 0), [4], 0), ([1, 5, 7], ("one", 0), [4, 7], 0), ([3, 1, 5], ("one", 1), [2, 4], 1),
    ([3, 1, 5, -2], ("one", 1), [2, 4, -2], 1), ([9, 3, 1, 5], ("one", 2), [9, 2, 4], 1),
    ([1, 1], ("one", 0), [0], 0), ([1, 1, 1], ("one", 1), [0, 0], 1), ([0, 1, 0, 6], ("one", 1), [-1, -1, 6], 1),
    ([-1, 5], ("less", 0), [6], 0), ([-1, 5, 7], ("less", 0), [6, 7], 0), ([3, -1, 5], ("less", 1), [4, 6], -1),
    ([3, -1, 5, 2], ("less", 1), [4, 6, 2], -1), ([9, 3, -1, -5], ("less", 2), [9, 4, -4], -1),
    ([-1, -1], ("less", 0), [0], 0), ([-1, -1, -1], ("less", 1), [0, 0], -1),
    ([3, 0, 5], ("nought", 1), [8], 0), ([9, 3, 0, -5], ("nought", 2), [9, -2], 0),
    ([9, 3, 0, 5, 7], ("nought", 2), [9, 8, 7], 0), ([4, 0, -4, 6], ("nought", 1), [0, 6], 0),
    ([0, 0, 5], ("nought", 0), [5], 0), ([0, 0, 5, 7], ("nought", 0), [5, 7], 0), ([0, 0, 0], ("nought", 0), [0], 0),
    ([0, 0, 0], ("nought", 1), [0], 0), ([0, 0, 5], ("nought", 1), [5], 0), ([0, 0, 0, 0], ("nought", 0), [0, 0], 0),
    ([0, 0, 0, 0], ("nought", 2), [0, 0], 0),
    ([0, 5], ("loose", 0), [0, 0], 5), ([0, -5], ("loose", 0), [0, 0], -5), ([0, 0], ("loose", 0), [0, 0], 0),
    ([0, 5, 7], ("loose", 0), [0, 0, 7], 5), ([0, 0, 7], ("loose", 0), [0, 0, 7], 0),
    ([0, -40, 0, 0], ("loose", 0), [0, 0, 0, 0], -40),
    ([-2, 5], ("split", 0), [-1, 1, 6], -1), ([-40, 0], ("split", 0), [-39, 1, 1], -1),
    ([3, -2, 5, 7], ("split", 1), [3, -1, 1, 6, 7], -1), ([3, 9, -3, -1], ("split", 2), [3, 9, -2, 1, 0], -1),
)
# A list, and what is no step of it.
NO_STEPS = (
    # The last place, and places that it hasn't.
    ([1], ("one", 0)), ([-1], ("less", 0)), ([0], ("nought", 0)), ([0], ("loose", 0)), ([-2], ("split", 0)),
    ([5, 1], ("one", 1)), ([5, -1], ("less", 1)), ([0, 5, 0], ("nought", 2)), ([5, -2], ("split", 1)),
    ([1, 1], ("one", 2)), ([1, 1], ("one", 10 ** 60)), ([1, 1], ("one", -1)), ([1, 1], ("one", -2)),
    ([1, 1, 1], ("one", -3)), ([1, 1], ("one", -10 ** 60)), ([-1, -1, 4], ("less", -2)), ([0, 0, 4], ("nought", -3)),
    ([0, 0, 4], ("loose", -3)), ([-2, -2, -2], ("split", -2)),
    # Another number stands there.
    ([2, 5], ("one", 0)), ([0, 5], ("one", 0)), ([-1, 5], ("one", 0)), ([5, -1, 5], ("one", 1)),
    ([1, 5], ("less", 0)), ([0, 5], ("less", 0)), ([-2, 5], ("less", 0)), ([5, 1, 5], ("less", 1)),
    ([3, 1, 5], ("nought", 1)), ([3, -1, 5], ("nought", 1)), ([1, 0, 5], ("nought", 0)), ([-1, 0, 5], ("nought", 0)),
    ([1, 5], ("loose", 0)), ([-1, 5], ("loose", 0)), ([1, 0], ("loose", 0)),
    ([-1, 5], ("split", 0)), ([0, 5], ("split", 0)), ([1, 5], ("split", 0)), ([2, 5], ("split", 0)),
    # Nought at 0 without another 0, or without a third number; loose elsewhere.
    ([0, 0], ("nought", 0)), ([0, 5], ("nought", 0)), ([0, 5, 7], ("nought", 0)), ([0, 5, 0], ("nought", 0)),
    ([5, 0, 7], ("loose", 1)), ([0, 0, 7], ("loose", 1)),
    # Another word.
    ([1, 5], ("One", 0)), ([1, 5], ("", 0)), ([1, 5], ("one ", 0)), ([1, 5], ("on", 0)), ([1, 5], ("twist", 0)),
    ([1, 5], (1, 0)), ([0, 5], (0, 0)), ([1, 5], (None, 0)), ([1, 5], (True, 0)), ([1, 5], (["one"], 0)),
    ([1, 5], ({"one": 0}, 0)), ([1, 5], (("one",), 0)),
    # Another kind of place; another kind of thing.
    ([3, 1, 5], ("one", True)), ([1, 5], ("one", False)), ([0, 5], ("loose", False)), ([3, 0, 5], ("nought", True)),
    ([-2, 5], ("split", False)), ([-1, 5], ("less", False)), ([1, 5], ("one", None)), ([1, 5], ("one", "0")),
    ([1, 5], ("one", [0])), ([1, 5], ("one", (0,))), ([1, 5], ("one", {})), ([1, 5], ("one",)), ([1, 5], ("one", 0, 0)),
    ([1, 5], ()), ([1, 5], (0, "one")), ([1, 5], ["one", 0]), ([1, 5], "one"), ([1, 5], "one 0"), ([1, 5], {"one": 0}),
    ([1, 5], (("one", 0),)), ([1, 5], [("one", 0)]),
)
# A list, the steps by which it is eased, the least list.
EASED = (
    ([5], [], [5]), ([0], [], [0]), ([-5], [], [-5]), ([1], [], [1]), ([0, 0], [], [0, 0]), ([2, 3], [], [2, 3]),
    ([2, 0], [], [2, 0]), ([2, 2, -7], [], [2, 2, -7]), ([4, 1], [], [4, 1]),
    ([0, 5], [("loose", 0)], [0, 0]), ([0, -1], [("loose", 0)], [0, 0]), ([0, 0, 5], [("nought", 0)], [5]),
    ([0, 0, 0], [("nought", 0)], [0]), ([0, 0, 0, 0], [("nought", 0)], [0, 0]),
    ([0, 5, 7], [("loose", 0), ("nought", 0)], [7]), ([1, 5], [("one", 0)], [4]), ([1, 1], [("one", 0)], [0]),
    ([1, 1, 5], [("one", 0), ("loose", 0)], [0, 0]), ([-1, -1], [("less", 0)], [0]), ([-1, 3], [("less", 0)], [4]),
    ([-1, 3, 4], [("less", 0)], [4, 4]), ([2, 1, 5], [("one", 1), ("one", 0)], [3]),
    ([3, 1, 1], [("one", 1)], [2, 0]), ([3, -1, 5], [("less", 1)], [4, 6]), ([3, 0, 5], [("nought", 1)], [8]),
    ([3, 0, -3, 7], [("nought", 1), ("loose", 0)], [0, 0]), ([-2, 5], [("split", 0), ("less", 0)], [2, 6]),
    ([-3, 5], [("split", 0), ("split", 0), ("less", 0)], [2, 2, 6]),
    ([3, -2, 5], [("split", 1), ("less", 1)], [4, 2, 6]), ([1, 0, 7], [("one", 0), ("less", 0)], [8]),
    ([2, 0, -4, 1], [("nought", 1), ("split", 0), ("less", 0)], [2, 2]),
    # The first place comes first, whatever stands further on.
    ([3, 1, 5, 0, 2], [("one", 1), ("nought", 2)], [2, 6]), ([2, 2, 1, 9], [("one", 2), ("one", 1), ("one", 0)], [6]),
)
LEAST = (
    ((1, 0), [0, 0]), ((0, 1), [0]), ((1, 1), [1]), ((5, 1), [5]), ((-1, 1), [-1]), ((-5, 1), [-5]),
    ((999999999, 1), [999999999]), ((-999999999, 1), [-999999999]),
    ((1, 2), [2, 1]), ((-1, 2), [2, 0]), ((3, 2), [2, 2]), ((5, 2), [2, 3]), ((-5, 2), [2, -2]), ((-7, 2), [2, -3]),
    ((1, 3), [2, 2, 1]), ((2, 3), [3, 1]), ((-1, 3), [3, 0]), ((-2, 3), [2, 2, 0]), ((7, 3), [2, 2, 3]),
    ((18, 5), [2, 3, 4]), ((1, 1000), [2] * 999 + [1]), ((-999, 1000), [2] * 999 + [0]), ((-1, 1000), [1000, 0]),
    ((1001, 1000), [2] * 1000), ((999999999, 2), [2, 500000000]), ((-999999999, 2), [2, -499999999]),
)


def step_again(twists, word, at):
    """What comes by a step, and its weight, or None."""
    if not 0 <= at < len(twists) - 1:
        return None
    ahead, number, behind = twists[:at], twists[at], twists[at + 1:]
    if (word, number) in (("one", 1), ("less", -1)):
        behind[0] -= number
        if not ahead:
            return behind, 0
        return ahead[:-1] + [ahead[-1] - number] + behind, number
    if word == "nought" and number == 0 and ahead:
        return ahead[:-1] + [ahead[-1] + behind[0]] + behind[1:], 0
    if word == "nought" and number == 0 and behind[0] == 0 and behind[1:]:
        return behind[1:], 0
    if word == "loose" and number == 0 and not ahead:
        return [0, 0] + behind[1:], behind[0]
    if word == "split" and number < -1:
        return ahead + [number + 1, 1, behind[0] + 1] + behind[1:], -1
    return None


def steps_of(twists):
    """All steps of a list."""
    return [(word, at) for word in WORDS for at in range(len(twists)) if step_again(twists, word, at)]


def due_step(twists):
    """The step by which a list is to be eased, or None."""
    below = [at for at, number in enumerate(twists[:-1]) if number < 2]
    if not below or twists == [0, 0]:
        return None
    at = below[0]
    if twists[at] == 0:
        return ("loose", 0) if at == 0 and twists[1] != 0 else ("nought", at)
    return ({1: "one", -1: "less"}.get(twists[at], "split"), at)


def is_least(twists):
    return twists == [0, 0] or all(number >= 2 for number in twists[:-1])


def chance_row(chance, twists, many):
    """A row of steps by chance, the list that comes and the sum of the weights, by step_again."""
    row, weight = [], 0
    for _ in range(many):
        known = steps_of(twists)
        if known:
            row.append(chance.choice(known))
            twists, more = step_again(twists, *row[-1])
            weight += more
    return row, twists, weight


def some_lists(chance):
    return list(small_lists(2, 4)) + list(small_lists(4, 2)) + chance_lists(chance, 60)


class Step(unittest.TestCase):
    def test_known(self):
        for twists, one, wanted, weight in STEPS:
            self.assertEqual(step(twists, one), (wanted, weight), (twists, one))

    def test_no_such_step(self):
        for twists, thing in NO_STEPS:
            self.assertEqual(refused(step, twists, thing), REFUSED, (twists, thing))

    def test_other_things(self):
        for twists in ([1, 5], [0, 0, 1], [-1, -1], [-2, 0], [7]):
            for thing in OTHER_THINGS + ("", "one", "less", "nought", "loose", "split"):
                self.assertEqual(refused(step, twists, thing), REFUSED, (twists, thing))
                if thing not in WORDS:
                    self.assertEqual(refused(step, twists, (thing, 0)), REFUSED, (twists, thing))
                if type(thing) is not int:
                    for word in WORDS:
                        self.assertEqual(refused(step, twists, (word, thing)), REFUSED, (twists, word, thing))

    def test_small_lists_all_words_all_places(self):
        seen = Counter()
        for twists in itertools.chain(small_lists(3, 3), small_lists(2, 4)):
            for word in WORDS:
                for at in range(-2, len(twists) + 2):
                    wanted = step_again(twists, word, at)
                    if wanted is None:
                        self.assertEqual(refused(step, twists, (word, at)), REFUSED, (twists, word, at))
                    else:
                        self.assertEqual(step(twists, (word, at)), wanted, (twists, word, at))
                        seen[word] += 1
        self.assertTrue(min(seen[word] for word in WORDS) > 100, seen)

    def test_to_the_bounds(self):
        for twists in chance_lists(random.Random(121), 60):
            for word, at in steps_of(twists):
                self.assertEqual(step(twists, (word, at)), step_again(twists, word, at), (twists, word, at))

    def test_the_value_stays(self):
        for twists in some_lists(random.Random(122)):
            for one in steps_of(twists):
                self.assertEqual(value_again(step(twists, one)[0]), value_again(twists), (twists, one))

    def test_the_sums_by_the_weight(self):
        for twists in some_lists(random.Random(123)):
            for one in steps_of(twists):
                told, weight = step(twists, one)
                wanted = tuple(times_curls(polynomial, weight) for polynomial in twisted_sums(told))
                self.assertEqual(twisted_sums(twists), wanted, (twists, one))

    def test_kinds(self):
        for twists, one, wanted, weight in STEPS:
            told = step(twists, one)
            self.assertEqual([type(told), type(told[0]), type(told[1])], [tuple, list, int])


class Led(unittest.TestCase):
    def test_no_steps(self):
        for twists in ([0], [5], [0, 0], [1, -1, 0, 2], [40] + [0] * 39):
            self.assertEqual(led(twists, []), (twists, 0))

    def test_known(self):
        self.assertEqual(led([-3, 1, 4], [("one", 1)]), ([-4, 3], 1))
        self.assertEqual(led([-3, 1, 4], [("split", 0), ("split", 0), ("less", 0)]), ([2, 2, 2, 4], -2))
        self.assertEqual(led([-3, 1, 4], [("split", 0), ("split", 0), ("one", 1)]), ([-2, 1, 2, 4], -1))
        self.assertEqual(led([0, 5, 1, 3], [("one", 2), ("loose", 0), ("nought", 0)]), ([2], 5))
        self.assertEqual(led([0, 5], [("loose", 0), ("loose", 0)]), ([0, 0], 5))
        self.assertEqual(led([3, -2, -1, 0, 7], [("less", 2), ("less", 1)]), ([4, 2, 7], -2))
        self.assertEqual(led([1, 1, 2], [("one", 0), ("loose", 0)]), ([0, 0], 2))

    def test_by_chance(self):
        chance = random.Random(124)
        longest = 0
        for twists in some_lists(chance):
            row, wanted, weight = chance_row(chance, twists, chance.randint(0, 12))
            self.assertEqual(led(twists, row), (wanted, weight), (twists, row))
            self.assertEqual(value_again(wanted), value_again(twists))
            self.assertEqual(twisted_sums(twists),
                             tuple(times_curls(one, weight) for one in twisted_sums(wanted)), (twists, row))
            longest = max(longest, len(row))
        self.assertEqual(longest, 12)

    def test_the_sums_of_the_tangles(self):
        chance = random.Random(125)
        for _ in range(40):
            twists = chance_list(chance, chance.randint(2, 5), chance.randint(0, 7))
            row, wanted, weight = chance_row(chance, twists, 3)
            if len(twisted(wanted)[0]) <= 10:
                told = plain_sums(twisted(led(twists, row)[0]))
                self.assertEqual(plain_sums(twisted(twists)), sums_times_curls(told, weight), (twists, row))

    def test_refused_within_a_row(self):
        chance = random.Random(126)
        for twists in some_lists(chance)[::7]:
            row, wanted, weight = chance_row(chance, twists, 4)
            for thing in (("one", len(wanted) - 1), ("split", -1), ("no", 0), None, [], "one", ("less", True), 5):
                self.assertEqual(refused(led, twists, row + [thing]), REFUSED, (twists, row, thing))
                self.assertEqual(refused(led, twists, row + [thing] + row), REFUSED)
                self.assertEqual(refused(led, twists, [thing] + row), REFUSED)
        # A step of the list itself, but not of what comes of it by the steps ahead.
        self.assertEqual(refused(led, [1, 5], [("one", 0), ("one", 0)]), REFUSED)
        self.assertEqual(refused(led, [3, 1, 1, 4], [("one", 1), ("one", 2)]), REFUSED)

    def test_kinds(self):
        for row in ([], [("one", 1)], [("one", 1), ("one", 0)]):
            told = led([2, 1, 2, 5], row)
            self.assertEqual([type(told), type(told[0]), type(told[1])], [tuple, list, int])


class LeastList(unittest.TestCase):
    def test_known(self):
        for fraction, wanted in LEAST:
            self.assertEqual(least_list(fraction), wanted, fraction)

    def test_small_fractions(self):
        for bottom in range(1, 41):
            for top in range(-130, 131):
                if math.gcd(top, bottom) == 1:
                    told = least_list((top, bottom))
                    self.assertTrue(is_least(told), told)
                    self.assertEqual(value_again(told), (top, bottom))

    def test_to_the_bounds(self):
        chance = random.Random(127)
        tops = (999999999, -999999999, 1, -1, 1001)
        asked = [(top, bottom) for bottom in (997, 998, 999, 1000) for top in tops]
        while len(asked) < 300:
            asked.append((chance.randint(-10 ** 9 + 1, 10 ** 9 - 1), chance.randint(1, 1000)))
        longest = 0
        for top, bottom in asked:
            if math.gcd(top, bottom) == 1:
                told = least_list((top, bottom))
                self.assertTrue(is_least(told) and len(told) <= 1000, told)
                self.assertEqual([type(told)] + sorted({type(number).__name__ for number in told}), [list, "int"])
                self.assertEqual(value_again(told), (top, bottom))
                longest = max(longest, len(told))
        self.assertGreater(longest, 900)

    def test_just_one_for_each_fraction(self):
        seen = {(1, 0): [0, 0]}
        for many in range(5):
            for row in itertools.product(range(2, 6), repeat=many):
                for last in range(-4, 5):
                    twists = list(row) + [last]
                    fraction = value_again(twists)
                    self.assertNotIn(fraction, seen)
                    seen[fraction] = twists
                    self.assertEqual(least_list(fraction), twists)

    def test_of_values_that_were_told(self):
        for twists in chance_lists(random.Random(128), 60):
            told = least_list(value(twists))
            self.assertTrue(is_least(told))
            self.assertEqual(value_again(told), value_again(twists))


class Eased(unittest.TestCase):
    def test_known(self):
        for twists, steps, wanted in EASED:
            self.assertEqual(eased(twists), (steps, wanted), twists)

    def test_the_steps_in_the_told_order(self):
        seen = Counter()
        for twists in some_lists(random.Random(129)) + list(small_lists(3, 3)):
            steps, wanted = eased(twists)
            now = list(twists)
            for one in steps:
                self.assertEqual(one, due_step(now), (twists, steps))
                now = step_again(now, *one)[0]
                seen[one[0]] += 1
            self.assertIsNone(due_step(now))
            self.assertEqual(now, wanted, twists)
        self.assertTrue(min(seen[word] for word in WORDS) > 100, seen)

    def test_led_goes_through_them(self):
        for twists in some_lists(random.Random(130)):
            steps, wanted = eased(twists)
            told, weight = led(twists, steps)
            self.assertEqual(told, wanted)
            self.assertEqual(twisted_sums(twists), tuple(times_curls(one, weight) for one in twisted_sums(wanted)))

    def test_the_least_list_of_the_value(self):
        for twists in some_lists(random.Random(131)):
            told = eased(twists)[1]
            self.assertTrue(is_least(told), twists)
            self.assertEqual(value_again(told), value_again(twists))
            self.assertEqual(told, least_list(value(twists)))

    def test_one_value_just_where_eased_to_one_list(self):
        by_value, by_list = {}, {}
        for twists in some_lists(random.Random(132)):
            by_value.setdefault(value_again(twists), set()).add(tuple(eased(twists)[1]))
            by_list.setdefault(tuple(eased(twists)[1]), set()).add(value_again(twists))
        self.assertEqual({len(row) for row in list(by_value.values()) + list(by_list.values())}, {1})
        self.assertGreater(len(by_value), 100)

    def test_least_lists_by_none(self):
        chance = random.Random(133)
        for fraction, twists in LEAST:
            self.assertEqual(eased(twists), ([], twists))
        for _ in range(100):
            top, bottom = chance.randint(-10 ** 9 + 1, 10 ** 9 - 1), chance.randint(1, 1000)
            if math.gcd(top, bottom) == 1:
                self.assertEqual(eased(least_list((top, bottom))), ([], least_list((top, bottom))))

    def test_kinds(self):
        for twists in ([5], [0, 0], [0, 3, -2, 1], [-40, 0]):
            steps, told = eased(twists)
            self.assertEqual([type(eased(twists)), type(steps), type(told)], [tuple, list, list])
            self.assertTrue(all((type(one), type(one[0]), type(one[1])) == (tuple, str, int) for one in steps))


class Given(unittest.TestCase):
    def test_what_is_handed_in_stays(self):
        row = [("one", 2), ("loose", 0), ("nought", 0)]
        asked = [(step, twists, one) for twists, one, _, _ in STEPS]
        asked += [(led, [0, 5, 1, 3], row), (led, [4, 0], []), (least_list, (18, 5))]
        asked += [(eased, twists) for twists, _, _ in EASED]
        for ask, *given in asked:
            kept = copy.deepcopy(given)
            told = copy.deepcopy(ask(*given))
            self.assertEqual(given, kept)
            self.assertEqual(ask(*given), told)

    def test_what_is_refused_stays(self):
        twists, row = [1, 5, 0, 2], [("one", 0), ("one", 0)]
        self.assertEqual(refused(led, twists, row), REFUSED)
        self.assertEqual((twists, row), ([1, 5, 0, 2], [("one", 0), ("one", 0)]))

    def test_what_is_told_is_the_askers_own(self):
        for twists in ([0, 0], [5], [2, 3], [0, 7], [0, 0, 4], [-2, 1]):
            for ask in (lambda: led(twists, [])[0], lambda: eased(twists)[1], lambda: eased(twists)[0],
                        lambda: least_list(value(twists))):
                kept = list(twists)
                told = ask()
                wanted = list(told)
                told.append(9)
                told[0] = 8
                self.assertEqual(twists, kept)
                self.assertEqual(ask(), wanted)
        for twists, one, wanted, weight in STEPS:
            step(twists, one)[0].clear()
            self.assertEqual(step(twists, one), (wanted, weight))


if __name__ == "__main__":
    unittest.main()
