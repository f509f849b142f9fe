"""[2], [41]: the desk, its rows, its answers, what it refuses."""

import random
import re
import unittest
from collections import Counter
from unittest import mock

from tanglehouse.colours import colours
from tanglehouse.desk import Desk
from tanglehouse.easing import eased
from tanglehouse.errors import NoMatch, NoName, NoRow, NoText, NoTurning, Odd, TooWide
from tanglehouse.parts import read_part
from tanglehouse.polytexts import read_polynomial
from tanglehouse.stores import sums
from tanglehouse.strands import links, turns
from tanglehouse.telling import compared
from tanglehouse.texts import read, shown
from tests.helper import MEET_AT_20, MEET_AT_21, OTHER_THINGS, WIDE, chance_list, chance_trees, chance_web, flat_web
from tests.helper import part_of, plain_again, refused, turned_again, turnings_again, value_again, weight_again

TREFOIL = "x 1 5 2 4 x 3 1 4 6 x 5 3 6 2"
HOPF = "x 4 1 3 2 x 2 3 1 4"
SLID = "x 0 1 2 3 x 4 1 0 5 e 2 3 5 4"
THREE = "x 0 2 3 4 x 1 0 5 6 x 8 2 1 7 e 3 4 5 6 7 8"
# What is said at one desk, row by row, with the answers.
SAID = (
    ("web knot " + TREFOIL, "ok"), ("show knot", TREFOIL), ("plain knot", "x 0 1 2 3 x 4 0 3 5 x 1 4 5 2"),
    ("turnings knot", "0"), ("turns knot", "3"), ("links knot", "none"), ("colours knot 2", "2"),
    ("colours knot 3", "9"), ("colours knot 60", "180"), ("sums knot", "-: -x^-9 + x^-1 + x^3 + x^7"),
    ("tell knot knot", "alike"), ("web other x 5 2 4 1 x 1 4 6 3 x 3 6 2 5", "ok"), ("turns other", "-3"),
    ("tell knot other", "apart sums"), ("tell other knot", "apart sums"), ("web rings " + HOPF + " o 2", "ok"),
    ("links rings", "2"), ("turns rings", "0"), ("tell knot rings", "apart strung"), ("show rings", HOPF + " o 2"),
    ("web rings x 4 1 3 2 x 2 3 1 5 x 5 6 7 8 x 6 4 8 7", "ok"), ("links rings", "2 2"),
    ("web two " + HOPF + " o 1", "ok"), ("tell rings two", "apart links"), ("web ring o 1", "ok"),
    ("tell ring knot", "apart colours"), ("turns ring", "0"), ("colours ring 60", "60"),
    ("sums ring", "-: -x^-2 - x^2"), ("links ring", "none"), ("plain ring", "o 1"),
    # The web without anything.
    ("web none ", "ok"), ("show none", ""), ("plain none", ""), ("turnings none", "0"), ("turns none", "0"),
    ("links none", "none"), ("colours none 7", "1"), ("sums none", "-: 1"), ("tell none none", "alike"),
    ("tell none ring", "apart strung"),
    # Parts, in the place of webs, and webs in that of parts.
    ("part knot (single beside single)", "ok"), ("show knot", "x 0 1 2 3 x 3 2 4 5 e 0 1 4 5"),
    ("sums knot", "0-1 2-3: 1 - x^4; 0-3 1-2: x^-2"), ("links knot", "2"), ("part part single", "ok"),
    ("sums part", "0-1 2-3: x; 0-3 1-2: x^-1"), ("part part (mirrored single)", "ok"),
    ("show part", "x 0 1 2 3 e 3 0 1 2"), ("plain part", "x 0 1 2 3 e 1 2 3 0"), ("part up upright", "ok"),
    ("sums up", "0-1 2-3: 1"), ("part up level", "ok"), ("sums up", "0-3 1-2: 1"), ("show up", "e 0 1 1 0"),
    ("web up e 4 4", "ok"), ("sums up", "0-1: 1"), ("show up", "e 4 4"), ("web up e 7 2 7 2 3 3", "ok"),
    ("sums up", "0-2 1-3 4-5: 1"), ("plain up", "e 0 1 0 1 2 2"),
    # Turns and back.
    ("web a x 0 0 1 1 x 2 3 3 2", "ok"), ("turnings a", "4"), ("turn a 0", "curl 1"), ("show a", "x 0 1 1 0 o 1"),
    ("turnings a", "2"), ("turn a 1", "curl -1"), ("show a", "o 2"), ("turnings a", "0"), ("back a", "ok"),
    ("show a", "x 0 1 1 0 o 1"), ("back a", "ok"), ("show a", "x 0 0 1 1 x 2 3 3 2"), ("turn a 3", "curl -1"),
    ("show a", "x 0 0 1 1 o 1"), ("tell a ring", "apart strung"), ("back a", "ok"), ("show a", "x 0 0 1 1 x 2 3 3 2"),
    ("web a " + SLID, "ok"), ("turn a 0", "slide 0"), ("show a", "e 0 1 1 0"), ("back a", "ok"), ("show a", SLID),
    ("web a " + THREE, "ok"), ("turn a 0", "over 0"), ("show a", "x 0 1 2 3 x 4 5 6 2 x 6 7 8 3 e 5 7 8 0 1 4"),
    ("turn a 0", "over 0"), ("show a", "x 0 1 2 3 x 4 0 5 6 x 7 1 4 8 e 2 3 5 6 8 7"), ("back a", "ok"),
    ("back a", "ok"), ("show a", THREE),
    # Open, by shelves of at most twenty.
    ("web one " + MEET_AT_20[0], "ok"), ("web two " + MEET_AT_20[1], "ok"), ("tell one two", "alike"),
    ("web one " + MEET_AT_21[0], "ok"), ("web two " + MEET_AT_21[1], "ok"), ("tell one two", "open 20 2"),
    ("tell two one", "open 2 20"), ("web wide " + WIDE, "ok"), ("tell wide ring", "open 1 1"),
    # Names of eight letters, and words of the desk.
    ("web abcdefgh o 3", "ok"), ("show abcdefgh", "o 3"), ("web web o 4", "ok"), ("show web", "o 4"),
    ("part show level", "ok"), ("show show", "e 0 1 1 0"), ("web turn x 0 0 1 1", "ok"), ("turn turn 0", "curl 1"),
    ("back turn", "ok"), ("show turn", "x 0 0 1 1"), ("tell turn ring", "alike"), ("web tell o 1", "ok"),
    ("tell tell turn", "alike"), ("web ease o 1", "ok"), ("turns ease", "0"), ("web zyxwvuts ", "ok"),
    ("colours web 2", "16"), ("web z o 1", "ok"), ("web ok o 2", "ok"), ("links ok", "none"), ("turnings turn", "2"),
    # Lists of twists.
    ("ease 0", "0"), ("ease 5", "5"), ("ease -5", "-5"), ("ease 40", "40"), ("ease -40", "-40"), ("ease 0 0", "0 0"),
    ("ease 0 7", "0 0"), ("ease 2 0 -4 1", "2 2"), ("ease 20 -20", "20 -20"), ("ease 1 1", "0"), ("ease -1 1", "2"),
    ("ease 3 1 5", "2 4"), ("ease" + " 0" * 40, "0 0"), ("ease" + " 0" * 39, "0"), ("ease" + " 1" * 40, "1"),
    ("ease" + " 0" * 38 + " 39 -1", "39 -1"), ("ease 10 10 10 10", "10 10 10 10"), ("ease 0 0 0 0 40", "40"),
)
# Rows that are none, of whatever stands at the desk.
NO_ROWS = (
    "", " ", "  ", "web", "part", "show", "plain", "turnings", "turn", "back", "turns", "links", "colours", "sums",
    "tell", "ease", "web ", "part ", "show ", "turn ", "ease ", "tell ", "web a", "part a", "web web", "nothing", "a",
    "ok", "none", "lay a o 1", "alike a b", "shelf a", "apart a b", "open a b", "x 0 0 1 1", "o 1", "say a", "webs a",
    "shows a", "we a o 1",
    # Blanks too many, ahead, between and behind.
    " web a o 1", "web  a o 1", " show a", "show  a", "show a ", "show a  ", "  show a", "plain a ", "turnings  a",
    "turn a  0", "turn a 0 ", "turn  a 0", "back a ", "turns a ", " turns a", "links  a", "links a ", "colours a 3 ",
    "colours a  3", "sums a ", "sums  a", "tell a  b", "tell a b ", "tell  a b", " tell a b", " ease 1", "ease  1",
    "ease 1 ", "ease 1  2", " part a level", "part  a level", "web\ta o 1", "show\ta", "show a\n", "\nshow a",
    "show a\t", "turn a 0\n", "ease 1\n", "ease 1\t2", "show\na", "tell a\nb", "colours a 3\n",
    # Names of nine letters, of none, of other signs.
    "web abcdefghi o 1", "part abcdefghi level", "show abcdefghi", "turn abcdefghi 0", "tell a abcdefghi",
    "tell abcdefghi a", "back abcdefghi", "plain abcdefghi", "links abcdefghi", "sums abcdefghi", "colours abcdefghi 3",
    "web A o 1", "web aB o 1", "web a1 o 1", "web 1 o 1", "web a_b o 1", "web a-b o 1", "web - o 1", "show A",
    "show a1", "show 1", "show a.b", "show aB", "part A level", "part a1 level", "tell a B", "tell A b", "tell a 1",
    "turn A 0", "back A", "show \u00e9", "show \u00df", "web \u00e9 o 1", "show \u0430", "show a\u00e4",
    "web a\x00 o 1", "sums \u00aa",
    # Great letters in the words.
    "WEB a o 1", "Web a o 1", "SHOW a", "Show a", "Plain a", "TURN a 0", "Back a", "Ease 1", "Tell a b", "colourS a 3",
    # Words too few and too many.
    "show a a", "show a 0", "plain a a", "turnings a 0", "turn a", "turn 0", "turn 0 a", "turn a 0 0", "turn a a",
    "back a 1", "back a a", "turns a a", "links a a", "colours a", "colours 3", "colours 3 a", "colours a 3 5",
    "colours a a", "sums a a", "tell a", "tell a b a", "tell a 0",
    # Numbers: a nought ahead, ten figures, signs, figures of other scripts, beyond the bounds.
    "turn a 00", "turn a 01", "turn a 0000000000", "turn a 1000000000", "turn a 9999999999", "turn a -1", "turn a +0",
    "turn a -0", "turn a 0x0", "turn a 1_0", "turn a 1.0", "turn a \u0661", "turn a \u00b2", "turn a \uff10",
    "colours a 0", "colours a 1", "colours a 61", "colours a 03", "colours a 003", "colours a +3", "colours a -3",
    "colours a 100", "colours a 999999999", "colours a 3333333333", "colours a \u0663", "ease 01", "ease 00", "ease -0",
    "ease -01", "ease -00", "ease +1", "ease --1", "ease -", "ease - 1", "ease 1-", "ease a", "ease 1 a", "ease a 1",
    "ease 1,2", "ease 0000000001", "ease 1000000000", "ease \u0661", "ease -\u0661", "ease 1.0", "ease 41", "ease -41",
    "ease 20 21", "ease 20 -21", "ease -20 -21", "ease 40 0 1", "ease 999999999", "ease -999999999", "ease" + " 0" * 41,
    "ease" + " 1" * 41, "ease" + " 0" * 40 + " ", "ease" + " -1" * 41, "ease" + " 0" * 1000,
)
# Texts of webs and parts that are refused, each with what it is refused with.
NO_WEBS = (
    ("x", (NoText, {"at": 1})), ("x 0 0 1", (NoText, {"at": 4})), ("x 0 0 1 1 ", (NoText, {"at": 5})),
    (" ", (NoText, {"at": 0})), (" x 0 0 1 1", (NoText, {"at": 0})), ("o 0", (NoText, {"at": 1})),
    ("o 01", (NoText, {"at": 1})), ("O 1", (NoText, {"at": 0})), ("x 0 0 1 1\n", (NoText, {"at": 4})),
    ("level", (NoText, {"at": 0})), ("x 0 0 1 2", (Odd, {"arc": 1})), ("x 0 0 0 0", (Odd, {"arc": 0})),
    ("e 3", (Odd, {"arc": 3})), ("a", (NoText, {"at": 0})),
)
NO_PARTS = ("", " ", "level ", " level", "Level", "(single beside)", "x 0 0 1 1", "single single", "((single))",
            "(turned A)", "(single  beside single)", "(turned " * 9 + "single" + ")" * 9, "o 1")


def said(desk, rows):
    return [desk.say(row) for row in rows]


class Model:
    """A desk again: each name with the list of the webs that stood there since one was laid."""

    def __init__(self):
        self.webs = {}

    def lay(self, name, web):
        self.webs[name] = [web]
        return "ok"

    def turn(self, name, number):
        web = self.webs[name][-1]
        if number >= len(turnings_again(web)):
            return (NoTurning, {})
        turning = turnings_again(web)[number]
        self.webs[name].append(turned_again(web, turning))
        return turning[0] + " " + str(weight_again(turning))

    def back(self, name):
        if len(self.webs[name]) == 1:
            return (NoTurning, {})
        self.webs[name].pop()
        return "ok"


def answer_of(desk, row):
    """The answer to a row, or what it is refused with."""
    told = []
    error = refused(lambda: told.append(desk.say(row)))
    return error if error else told[0]


def standing_at(desk, names):
    """All that stands at a desk by these names, and what stood there ahead of the turns, which are taken back."""
    told = []
    for name in names:
        while True:
            told.append((name, answer_of(desk, "show " + name)))
            if answer_of(desk, "back " + name) != "ok":
                break
    return told


def desk_with_turns():
    """A desk at which turns were done, and some taken back."""
    desk = Desk()
    rows = ("web a x 0 0 1 1 x 2 3 3 2", "turn a 0", "turn a 0", "web b " + SLID, "turn b 0", "back b", "part c single",
            "web d " + THREE, "turn d 0", "web e e 0 0", "web wide " + WIDE)
    for row in rows:
        desk.say(row)
    return desk


NAMES = ("a", "b", "c", "d", "e", "f", "g", "wide", "nobody")


class Said(unittest.TestCase):
    def test_row_by_row(self):
        desk = Desk()
        for row, wanted in SAID:
            told = desk.say(row)
            self.assertEqual(type(told), str)
            self.assertTrue(re.fullmatch("[ -~]*", told) and "%" not in told, told)
            self.assertEqual(told, wanted, row)

    def test_sums_as_they_are(self):
        chance = random.Random(265)
        desk = Desk()
        for _ in range(40):
            web = flat_web(chance, 12, chance.randrange(3) == 0)
            desk.say("web a " + shown(web))
            rows = desk.say("sums a").split("; ")
            wanted = sorted(sums(web).items())
            self.assertEqual(len(rows), len(wanted))
            for row, (joining, one) in zip(rows, wanted):
                pairs, text = row.split(": ")
                self.assertEqual(pairs, " ".join(str(i) + "-" + str(j) for i, j in joining) or "-")
                self.assertEqual(read_polynomial(text), one)

    def test_of_a_web_without_sums(self):
        # No web is without: shut to a diagram, its sums at x = 1 come to 2 to some power, or less it. None are put in.
        desk = Desk()
        desk.say("web a " + TREFOIL)
        with mock.patch("tanglehouse.desk.sums", lambda web: {}):
            self.assertEqual(desk.say("sums a"), "none")

    def test_webs_as_they_are(self):
        chance = random.Random(266)
        desk = Desk()
        for _ in range(60):
            web = chance_web(chance, chance.randint(0, 8), 2 * chance.randint(0, 4), chance.choice((0, 1, 20)))
            self.assertEqual(desk.say("web a " + shown(web)), "ok")
            self.assertEqual(desk.say("show a"), shown(web))
            self.assertEqual(desk.say("plain a"), shown(plain_again(web)))
            self.assertEqual(desk.say("turnings a"), str(len(turnings_again(web))))
            self.assertEqual(desk.say("turns a"), str(turns(web)))
            self.assertEqual(desk.say("links a"), " ".join(str(number) for number in links(web)) or "none")
            for m in (2, 3, 10, 59, 60):
                self.assertEqual(desk.say("colours a " + str(m)), str(colours(web, m)))

    def test_parts_as_they_are(self):
        desk = Desk()
        for tree in chance_trees(random.Random(267), 40, 30):
            part = part_of(tree)
            if len(part.written()) < 4000:
                self.assertEqual(desk.say("part a " + part.written()), "ok")
                self.assertEqual(desk.say("show a"), shown(part.web()))
                self.assertEqual(desk.say("show a"), shown(read_part(part.written()).web()))

    def test_to_the_bounds(self):
        chance = random.Random(268)
        desk = Desk()
        web = flat_web(chance, 44, False)
        self.assertTrue(len(web[0]) > 35)
        text = shown((web[0], web[1], 20))
        self.assertEqual(desk.say("web a " + text), "ok")
        self.assertEqual(desk.say("show a"), text)
        self.assertEqual(desk.say("plain a"), shown(plain_again((web[0], web[1], 20))))
        self.assertEqual(desk.say("colours a 60"), str(colours((web[0], web[1], 20), 60)))

    def test_tell(self):
        chance = random.Random(269)
        desk = Desk()
        seen = Counter()
        for _ in range(60):
            one, other = [flat_web(chance, 7, True) for _ in range(2)]
            said(desk, ["web one " + shown(one), "web other " + shown(other)])
            told = compared(one, other)
            wanted = {"alike": "alike", "apart": "apart " + str(told[1]), "open": " ".join(map(str, told))}[told[0]]
            self.assertEqual(desk.say("tell one other"), wanted)
            seen[wanted] += 1
        self.assertTrue(len(seen) > 2, seen)

    def test_turn_by_turn(self):
        chance = random.Random(270)
        desk = Desk()
        seen = Counter()
        for _ in range(30):
            web = flat_web(chance, 14, chance.randrange(2) == 0)
            desk.say("web a " + shown(web))
            webs = [web]
            while turnings_again(webs[-1]) and len(webs) < 12:
                known = turnings_again(webs[-1])
                number = chance.randrange(len(known))
                told = desk.say("turn a " + str(number))
                self.assertEqual(told, known[number][0] + " " + str(weight_again(known[number])))
                webs.append(turned_again(webs[-1], known[number]))
                self.assertEqual(desk.say("show a"), shown(webs[-1]))
                seen[told] += 1
            self.assertEqual(refused(desk.say, "turn a " + str(len(turnings_again(webs[-1])))), (NoTurning, {}))
            for web in reversed(webs[:-1]):
                self.assertEqual(desk.say("back a"), "ok")
                self.assertEqual(desk.say("show a"), shown(web))
            self.assertEqual(refused(desk.say, "back a"), (NoTurning, {}))
        self.assertEqual(sorted(seen), ["curl -1", "curl 1", "over 0", "slide 0"])

    def test_ease(self):
        chance = random.Random(271)
        desk = Desk()
        for _ in range(300):
            twists = chance_list(chance, chance.randint(1, 40), chance.choice((0, 3, 12, 39, 40)))
            told = desk.say("ease " + " ".join(str(number) for number in twists))
            least = [int(word) for word in told.split(" ")]
            self.assertEqual(" ".join(str(number) for number in least), told)
            self.assertEqual(least, eased(twists)[1])
            self.assertEqual(value_again(least), value_again(twists))
            self.assertTrue(least == [0, 0] or min(least[:-1], default=2) >= 2)

    def test_ease_needs_no_web_and_lays_none(self):
        desk = Desk()
        self.assertEqual(desk.say("ease 1 2 3"), "2")
        self.assertEqual(refused(desk.say, "show ease"), (NoName, {"name": "ease"}))


class Refused(unittest.TestCase):
    def test_no_rows(self):
        for desk in (Desk(), desk_with_turns()):
            for row in NO_ROWS:
                self.assertEqual(refused(desk.say, row), (NoRow, {}), row)

    def test_no_texts(self):
        for desk in (Desk(), desk_with_turns()):
            for row in OTHER_THINGS + ((), ("show a",), ["show a"], {"show": "a"}, ("show", "a"), [[]], {"a": []}):
                self.assertEqual(refused(desk.say, row), (NoRow, {}), row)

    def test_no_names(self):
        desk = Desk()
        for word in ("show", "plain", "turnings", "back", "turns", "links", "sums"):
            for name in ("a", "abcdefgh", "show", word):
                self.assertEqual(refused(desk.say, word + " " + name), (NoName, {"name": name}), word)
        for word in ("turn", "colours"):
            self.assertEqual(refused(desk.say, word + " a 2"), (NoName, {"name": "a"}))
        self.assertEqual(refused(desk.say, "turn a 999999999"), (NoName, {"name": "a"}))
        self.assertEqual(refused(desk.say, "tell a b"), (NoName, {"name": "a"}))
        self.assertEqual(refused(desk.say, "tell b a"), (NoName, {"name": "b"}))
        self.assertEqual(refused(desk.say, "tell b b"), (NoName, {"name": "b"}))
        desk.say("web b o 1")
        self.assertEqual(refused(desk.say, "tell a b"), (NoName, {"name": "a"}))
        self.assertEqual(refused(desk.say, "tell b a"), (NoName, {"name": "a"}))
        self.assertEqual(refused(desk.say, "tell a c"), (NoName, {"name": "a"}))
        self.assertEqual(desk.say("tell b b"), "alike")
        self.assertEqual(refused(desk.say, "show bb"), (NoName, {"name": "bb"}))

    def test_texts(self):
        for desk in (Desk(), desk_with_turns()):
            for text, wanted in NO_WEBS:
                self.assertEqual(refused(desk.say, "web a " + text), wanted, text)
                self.assertEqual(refused(desk.say, "web g " + text), wanted, text)
            for text in NO_PARTS:
                self.assertEqual(refused(desk.say, "part a " + text), (NoText, {"at": 0}), text)

    def test_deeds(self):
        desk = desk_with_turns()
        for row, wanted in (("sums wide", (TooWide, {"crossing": 4})), ("tell a e", (NoMatch, {})),
                            ("tell c e", (NoMatch, {})), ("tell e a", (NoMatch, {})), ("turn e 0", (NoTurning, {})),
                            ("back e", (NoTurning, {})),
                            ("back b", (NoTurning, {})), ("back c", (NoTurning, {})), ("turn b 1", (NoTurning, {})),
                            ("turn a 0", (NoTurning, {})), ("turn b 999999999", (NoTurning, {})),
                            ("turn d 1", (NoTurning, {})), ("tell wide d", (NoMatch, {}))):
            self.assertEqual(refused(desk.say, row), wanted, row)

    def test_the_row_ahead_of_the_name_ahead_of_the_deed(self):
        desk = desk_with_turns()
        for row, wanted in (("colours nobody 61", (NoRow, {})), ("colours nobody 60", (NoName, {"name": "nobody"})),
                            ("colours nobody 1", (NoRow, {})), ("turn nobody 01", (NoRow, {})),
                            ("turn nobody 1", (NoName, {"name": "nobody"})), ("tell nobody A", (NoRow, {})),
                            ("tell e nobody", (NoName, {"name": "nobody"})), ("web Nobody x", (NoRow, {})),
                            ("web nobody x", (NoText, {"at": 1})), ("part Nobody x", (NoRow, {})),
                            ("part nobody x", (NoText, {"at": 0})), ("back nobody", (NoName, {"name": "nobody"})),
                            ("web nobody x 0 0 1 2 o", (NoText, {"at": 6})),
                            ("web nobody x 0 0 1 2", (Odd, {"arc": 1})),
                            ("back nobody 0", (NoRow, {})), ("sums wide wide", (NoRow, {})),
                            ("tell nobody e", (NoName, {"name": "nobody"}))):
            self.assertEqual(refused(desk.say, row), wanted, row)

    def test_back_behind_a_web_laid_anew(self):
        desk = Desk()
        for row in ("web a x 0 0 1 1", "part a ((single beside single) beside (mirrored single))"):
            said(desk, ["web a x 0 0 1 1 x 2 3 3 2", "turn a 0", "turn a 0", row])
            self.assertEqual(refused(desk.say, "back a"), (NoTurning, {}))
            shown_then = desk.say("show a")
            self.assertTrue(desk.say("turn a 0"))
            self.assertEqual(said(desk, ["back a", "show a"]), ["ok", shown_then])
            self.assertEqual(refused(desk.say, "back a"), (NoTurning, {}))

    def test_changes_nothing(self):
        wanted = standing_at(desk_with_turns(), NAMES)
        self.assertEqual(len([name for name, _ in wanted if name == "a"]), 3)
        rows = list(NO_ROWS) + list(OTHER_THINGS) + ["web a " + text for text, _ in NO_WEBS]
        rows += ["part a " + text for text in NO_PARTS] + ["web g " + text for text, _ in NO_WEBS]
        rows += ["turn e 0", "back b", "turn a 7", "sums wide", "tell a e", "tell a nobody", "show nobody",
                 "turn nobody 0", "back nobody", "turn a 0", "turn d 1", "web nobody x 0 0 1 2", "part nobody x"]
        desk = desk_with_turns()
        for row in rows:
            self.assertIsNotNone(refused(desk.say, row), row)
        self.assertEqual(standing_at(desk, NAMES), wanted)

    def test_what_is_asked_changes_nothing(self):
        wanted = standing_at(desk_with_turns(), NAMES)
        desk = desk_with_turns()
        for name in ("a", "b", "c", "d", "e"):
            for row in ("show", "plain", "turnings", "turns", "links", "sums"):
                self.assertEqual(desk.say(row + " " + name), desk.say(row + " " + name))
            self.assertEqual(desk.say("colours " + name + " 7"), desk.say("colours " + name + " 7"))
            self.assertEqual(desk.say("tell " + name + " " + name), "alike")
        desk.say("ease 3 -2")
        self.assertEqual(standing_at(desk, NAMES), wanted)


class Desks(unittest.TestCase):
    def test_know_nothing_of_one_another(self):
        one, other = Desk(), Desk()
        one.say("web a x 0 0 1 1")
        self.assertEqual(refused(other.say, "show a"), (NoName, {"name": "a"}))
        other.say("web a x 5 6 6 5")
        self.assertEqual([one.say("show a"), other.say("show a")], ["x 0 0 1 1", "x 5 6 6 5"])
        one.say("turn a 0")
        self.assertEqual([one.say("show a"), other.say("show a")], ["o 1", "x 5 6 6 5"])
        self.assertEqual(refused(other.say, "back a"), (NoTurning, {}))
        self.assertEqual(refused(Desk().say, "show a"), (NoName, {"name": "a"}))

    def test_names_know_nothing_of_one_another(self):
        desk = Desk()
        said(desk, ["web a x 0 0 1 1", "web b x 0 0 1 1", "turn a 0"])
        self.assertEqual([desk.say("show a"), desk.say("show b")], ["o 1", "x 0 0 1 1"])
        self.assertEqual(refused(desk.say, "back b"), (NoTurning, {}))
        self.assertEqual(said(desk, ["turn b 0", "back a", "show a", "show b"]), ["curl 1", "ok", "x 0 0 1 1", "o 1"])

    def test_as_a_model(self):
        chance = random.Random(272)
        desk, model = Desk(), Model()
        seen = Counter()
        for _ in range(600):
            name = chance.choice(("a", "b", "c"))
            word = chance.choice(("web", "turn", "turn", "turn", "back", "back", "bad"))
            if word == "web":
                web = flat_web(chance, chance.randint(4, 10), chance.randrange(2) == 0)
                told, wanted = desk.say("web " + name + " " + shown(web)), model.lay(name, web)
            elif word == "bad":
                told, wanted = answer_of(desk, "web " + name + " x 0 0 0 0"), (Odd, {"arc": 0})
            elif name not in model.webs:
                told, wanted = answer_of(desk, "back " + name), (NoName, {"name": name})
            elif word == "turn":
                number = chance.randrange(3)
                told, wanted = answer_of(desk, "turn " + name + " " + str(number)), model.turn(name, number)
            else:
                told, wanted = answer_of(desk, "back " + name), model.back(name)
            self.assertEqual(told, wanted)
            seen[(word, type(told))] += 1
            for name, webs in model.webs.items():
                self.assertEqual(desk.say("show " + name), shown(webs[-1]))
        self.assertTrue(min(seen[(word, kind)] for word in ("turn", "back") for kind in (str, tuple)) > 30, seen)

    def test_read_again(self):
        # What a desk shows, laid again, is the same web.
        desk = desk_with_turns()
        for name in ("a", "b", "c", "d", "e"):
            text = desk.say("show " + name)
            said(desk, ["web g " + text])
            self.assertEqual(desk.say("show g"), text)
            self.assertEqual(read(text), read(desk.say("show g")))
            self.assertEqual(desk.say("tell g " + name), "alike")


if __name__ == "__main__":
    unittest.main()
