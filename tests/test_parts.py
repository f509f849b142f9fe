"""[2], [3], [22]: parts, their webs, sums and texts."""

import itertools
import random
import re
import unittest

from tanglehouse import parts
from tanglehouse.errors import NoText, TooWide
from tanglehouse.faces import check_flat
from tanglehouse.parts import Above, Beside, Level, Mirrored, Part, Single, Turned, Upright, read_part
from tanglehouse.stores import sums
from tanglehouse.texts import read, shown
from tanglehouse.ways import plain_sums
from tanglehouse.webs import check_web, named_anew, mirrored
from tests.helper import LEVEL, OTHER_THINGS, SINGLE, UPRIGHT
from tests.helper import above_again, chance_trees, glued_again, part_of, quarter_again, refused, trees, twisted_row

NAMES = ("Level", "Upright", "Single", "Beside", "Above", "Turned", "Mirrored")
LEVEL_ENDS = ((0, 3), (1, 2))
UPRIGHT_ENDS = ((0, 1), (2, 3))
REFUSED = (NoText, {"at": 0})
# Parts whose webs are too wide to be reckoned part by part, of eight and of sixteen crossings.
TWO = "(single above single)"
WIDE = f"(single beside (single above ((single beside ({TWO} beside {TWO})) above single)))"
WIDER = f"({WIDE} beside (mirrored {WIDE}))"
# Of each text of a part its web's text.
WEBS = (
    ("level", "e 0 1 1 0"), ("upright", "e 0 0 1 1"), ("single", "x 0 1 2 3 e 0 1 2 3"),
    ("(turned level)", "e 0 0 1 1"), ("(turned upright)", "e 0 1 1 0"), ("(turned single)", "x 0 1 2 3 e 3 0 1 2"),
    ("(mirrored level)", "e 0 1 1 0"), ("(mirrored upright)", "e 0 0 1 1"),
    ("(mirrored single)", "x 0 1 2 3 e 3 0 1 2"),
    ("(upright beside upright)", "e 0 0 1 1 o 1"), ("(level above level)", "e 0 1 1 0 o 1"),
    ("(level beside upright)", "e 0 0 1 1"), ("(upright above level)", "e 0 1 1 0"),
    ("(single beside single)", "x 0 1 2 3 x 3 2 4 5 e 0 1 4 5"),
    ("(single above single)", "x 0 1 2 3 x 1 4 5 2 e 0 4 5 3"),
    ("(single beside (mirrored single))", "x 0 1 2 3 x 2 4 5 3 e 0 1 4 5"),
    ("((mirrored single) beside single)", "x 0 1 2 3 x 2 1 4 5 e 3 0 4 5"),
    ("(single beside level)", "x 0 1 2 3 e 0 1 2 3"), ("(single above level)", "x 0 1 1 2 e 0 3 3 2"),
    ("(level above single)", "x 0 1 2 0 e 3 1 2 3"), ("(upright beside single)", "x 0 0 1 2 e 3 3 1 2"),
    ("(turned (single above (single beside single)))", "x 0 1 2 3 x 1 4 5 6 x 6 5 7 2 e 3 0 4 7"),
)


def as_tree(part):
    """A part as a tuple of its class's name and of those that it is made of."""
    made = [getattr(part, field) for field in ("one", "other") if hasattr(part, field)]
    return (type(part).__name__,) + tuple(as_tree(one) for one in made)


def web_again(tree):
    """The web of a part, by walking."""
    made = [web_again(one) for one in tree[1:]]
    if tree[0] == "Mirrored":
        return named_anew(mirrored(made[0]))
    plain = {"Level": LEVEL, "Upright": UPRIGHT, "Single": SINGLE}
    ways = {"Beside": lambda one, other: glued_again(one, other, 2), "Above": above_again, "Turned": quarter_again}
    return ways[tree[0]](*made) if made else plain[tree[0]]


def written_again(tree):
    made = [written_again(one) for one in tree[1:]]
    if len(made) == 2:
        return f"({made[0]} {tree[0].lower()} {made[1]})"
    return f"({tree[0].lower()} {made[0]})" if made else tree[0].lower()


def writes_a_part(text):
    """Whether a text writes a part in which at most eight brackets are open at once."""
    opened = itertools.accumulate((sign == "(") - (sign == ")") for sign in text)
    if max(opened, default=0) > 8 or "#" in text:
        return False
    before, text = None, re.sub(r"(?<![a-z])(level|upright|single)(?![a-z])", "#", text)
    while text != before:
        before, text = text, re.sub(r"\((# beside #|# above #|turned #|mirrored #)\)", "#", text)
    return text == "#"


class Kinds(unittest.TestCase):
    def setUp(self):
        one, other = Level(), Single()
        self.made = {"Level": one, "Upright": Upright(), "Single": other, "Beside": Beside(one, other),
                     "Above": Above(one, other), "Turned": Turned(one), "Mirrored": Mirrored(other)}

    def test_each_of_its_class_and_of_part(self):
        self.assertEqual(tuple(self.made), NAMES)
        for name, part in self.made.items():
            self.assertIsInstance(part, Part)
            for other in NAMES:
                self.assertEqual(isinstance(part, getattr(parts, other)), name == other, (name, other))
            self.assertEqual(getattr(parts, name).__bases__, (Part,))

    def test_one_and_other(self):
        level, single = self.made["Level"], self.made["Single"]
        self.assertIs(self.made["Beside"].one, level)
        self.assertIs(self.made["Beside"].other, single)
        self.assertIs(self.made["Above"].one, level)
        self.assertIs(self.made["Above"].other, single)
        self.assertIs(self.made["Turned"].one, level)
        self.assertIs(self.made["Mirrored"].one, single)

    def test_made_by_names_of_arguments(self):
        for made in (Beside, Above):
            part = made(other=Level(), one=Single())
            self.assertEqual((part.one.written(), part.other.written()), ("single", "level"))
        for made in (Turned, Mirrored):
            self.assertEqual(made(one=Single()).one.written(), "single")

    def test_kinds_of_what_is_told(self):
        for part in self.made.values():
            self.assertEqual([type(part.web()), type(part.sums()), type(part.written())], [tuple, dict, str])


class Webs(unittest.TestCase):
    def test_known(self):
        for text, wanted in WEBS:
            self.assertEqual(shown(read_part(text).web()), wanted, text)

    def test_small_ones_all_as_by_walking(self):
        for tree in trees(2):
            web = part_of(tree).web()
            self.assertEqual(web, web_again(tree), tree)

    def test_flat_named_anew_tangles(self):
        chance = random.Random(101)
        for tree in trees(1) + chance_trees(chance, 150, 40):
            web = part_of(tree).web()
            self.assertIsNone(check_web(web))
            self.assertIsNone(check_flat(web))
            self.assertEqual(named_anew(web), web)
            self.assertEqual((len(web[0]), len(web[1])), (written_again(tree).count("single"), 4))
            self.assertEqual(web, web_again(tree))

    def test_the_picture_of_a_single(self):
        # The strand through places 1 and 3 lies above: these are lower left and upper right.
        self.assertEqual(Single().web(), read("x 0 1 2 3 e 0 1 2 3"))
        self.assertEqual(Level().web()[1], (0, 1, 1, 0))
        self.assertEqual(Upright().web()[1], (0, 0, 1, 1))

    def test_four_quarters_and_two_mirrors(self):
        chance = random.Random(102)
        for tree in chance_trees(chance, 40, 12):
            one = part_of(tree)
            self.assertEqual(Turned(Turned(Turned(Turned(one)))).web(), one.web())
            self.assertEqual([row[2:] + row[:2] for row in mirrored(mirrored(one.web()))[0]], list(one.web()[0]))
            self.assertEqual(Mirrored(one).web(), named_anew(mirrored(one.web())))


class PartSums(unittest.TestCase):
    def test_known(self):
        one = ((0, 1),)
        self.assertEqual(Level().sums(), {LEVEL_ENDS: one})
        self.assertEqual(Upright().sums(), {UPRIGHT_ENDS: one})
        self.assertEqual(Single().sums(), {LEVEL_ENDS: ((-1, 1),), UPRIGHT_ENDS: ((1, 1),)})
        self.assertEqual(Turned(Single()).sums(), {LEVEL_ENDS: ((1, 1),), UPRIGHT_ENDS: ((-1, 1),)})
        self.assertEqual(Mirrored(Single()).sums(), {LEVEL_ENDS: ((1, 1),), UPRIGHT_ENDS: ((-1, 1),)})
        self.assertEqual(Beside(Single(), Single()).sums(), {LEVEL_ENDS: ((-2, 1),), UPRIGHT_ENDS: ((0, 1), (4, -1))})
        self.assertEqual(Above(Single(), Single()).sums(), {LEVEL_ENDS: ((-4, -1), (0, 1)), UPRIGHT_ENDS: ((2, 1),)})
        # What comes to nought is left out.
        self.assertEqual(Beside(Single(), Mirrored(Single())).sums(), {LEVEL_ENDS: one})
        self.assertEqual(Above(Mirrored(Single()), Single()).sums(), {UPRIGHT_ENDS: one})

    def test_small_ones_all_as_their_webs(self):
        for tree in trees(2):
            part = part_of(tree)
            self.assertEqual(part.sums(), plain_sums(part.web()), tree)

    def test_within_one_another_as_their_webs(self):
        chance = random.Random(103)
        wide = 0
        for tree in chance_trees(chance, 120, 8) + chance_trees(chance, 120, 40):
            part = part_of(tree)
            told = part.sums()
            self.assertLessEqual(set(told), {LEVEL_ENDS, UPRIGHT_ENDS})
            if refused(sums, part.web()) is None:
                self.assertEqual(told, sums(part.web()), tree)
            else:
                wide += 1
        self.assertLess(wide, 80)

    def test_where_the_web_is_too_wide(self):
        part = read_part(WIDE)
        self.assertEqual(len(part.web()[0]), 8)
        self.assertEqual(refused(sums, part.web())[0], TooWide)
        self.assertEqual(part.sums(), plain_sums(part.web()))
        wider = read_part(WIDER)
        self.assertEqual(refused(sums, wider.web())[0], TooWide)
        # The same crossings in another order may be narrow enough.
        chance = random.Random(104)
        web = wider.web()
        told = None
        while told is None:
            other = (tuple(chance.sample(web[0], len(web[0]))), web[1], web[2])
            told = sums(other) if refused(sums, other) is None else None
        self.assertEqual(wider.sums(), told)

    def test_forty_crossings(self):
        two = "(single beside single)"
        eight = f"(({two} beside {two}) beside ({two} beside {two}))"
        text = f"((({eight} beside {eight}) beside ({eight} beside {eight})) beside {eight})"
        self.assertEqual(read_part(text).web(), named_anew(twisted_row(40)))
        self.assertEqual(read_part(text).sums(), sums(twisted_row(40)))


class Written(unittest.TestCase):
    def test_known(self):
        for made, wanted in (
            (Level(), "level"), (Upright(), "upright"), (Single(), "single"),
            (Beside(Level(), Upright()), "(level beside upright)"),
            (Above(Single(), Level()), "(single above level)"), (Turned(Single()), "(turned single)"),
            (Mirrored(Level()), "(mirrored level)"),
            (Beside(Turned(Above(Level(), Single())), Mirrored(Upright())),
             "((turned (level above single)) beside (mirrored upright))"),
        ):
            self.assertEqual(made.written(), wanted)

    def test_read_as_it_is_written(self):
        chance = random.Random(105)
        for tree in trees(2) + chance_trees(chance, 300, 40):
            text = written_again(tree)
            self.assertEqual(part_of(tree).written(), text)
            part = read_part(text)
            self.assertEqual(as_tree(part), tree)
            self.assertEqual(part.written(), text)

    def test_eight_open_at_once_are_read_and_nine_are_refused(self):
        for inner, ahead, behind in (
            ("single", "(turned ", ")"), ("level", "(mirrored ", ")"), ("level", "(", " beside single)"),
            ("level", "(single above ", ")"), ("(single beside level)", "(turned ", ")"),
        ):
            within = 7 if "(" in inner else 8
            text = ahead * within + inner + behind * within
            self.assertEqual(read_part(text).written(), text)
            self.assertEqual(refused(read_part, ahead + text + behind), REFUSED)
            self.assertEqual(refused(read_part, f"(upright beside {ahead + text + behind})"), REFUSED)
        # More brackets, but not at once.
        deep = "(turned " * 7 + "single" + ")" * 7
        text = f"({deep} beside {deep})"
        self.assertEqual(read_part(text).written(), text)
        # Open brackets that come to nothing else.
        for text in ("(" * 9, "(" * 5000, "(" * 9 + ")" * 9, "(turned " * 9, "(turned " * 3000 + "level" + ")" * 3000):
            self.assertEqual(refused(read_part, text), REFUSED)

    def test_long_texts(self):
        full = "level"
        for _ in range(8):
            full = f"({full} above {full})"
        self.assertEqual(read_part(full).written(), full)
        half = "single"
        for _ in range(5):
            half = f"({half} beside {half})"
        self.assertEqual(read_part(half).sums(), sums(twisted_row(32)))

    def test_what_is_no_text(self):
        for thing in OTHER_THINGS + (("level",), ["level"], {"level": "single"}, (), Level()):
            self.assertEqual(refused(read_part, thing), REFUSED, thing)

    def test_texts_that_write_no_part(self):
        for text in (
            "", " ", "  ", "(", ")", "()", "( )", ")(", "(level)", "((level))", "levels", "Level", "LEVEL", "lev",
            "x", "0", "beside",
            "turned", "turned level", "mirrored single", "level beside level", "(turned)", "(beside)", "(turned )",
            "( turned level)",
            "(turned level )", "(turned  level)", " (turned level)", "(turned level) ", " level", "level ", "level\n",
            "\nlevel",
            "(turned\nlevel)", "(turned\tlevel)", "(turned level", "turned level)", "(turned level))",
            "((turned level)",
            "level)", "(level", "level level", "level(", "(turned level)level", "(turned level)(turned level)",
            "(turned level) level",
            "(turned level level)", "(turned turned level)", "(turned(turned level))", "(turned (turned level) )",
            "(level turned)",
            "(level beside)", "(beside level)", "(level beside level", "level beside level)",
            "(level beside level level)",
            "(level beside level beside level)", "(levelbeside level)", "(level besidelevel)",
            "(level  beside level)",
            "(level beside  level)", "( level beside level)", "(level beside level )", "(level Beside level)",
            "(level below level)",
            "(level above above)", "(level level level)", "(level beside beside)", "(beside beside beside)",
            "(level and level)",
            "[turned level]", "(turned level]", "(turned, level)", "(level, beside level)", "(level + level)",
            "(turned 1)",
            "(turned (level))", "((level) beside level)", "(level beside (level)",
            "(level beside level)) beside level)",
            "x 0 1 2 3 e 0 1 2 3", "(level mirrored level)", "(beside level level)", "(above single)",
            "(single turned single)",
            "\u00a0level", "le\u0301vel", "(turned\u00a0level)", "((turned level) beside(turned level))", ")level(",
            "(level))(",
        ):
            self.assertEqual(refused(read_part, text), REFUSED, text)

    def test_one_sign_more_less_or_other(self):
        chance = random.Random(106)
        texts = [written_again(tree) for tree in trees(1) + chance_trees(chance, 12, 6)]
        read_still = 0
        for text in texts:
            others = [text[:k] + text[k + 1:] for k in range(len(text))]
            for sign in " ()ab":
                others += [text[:k] + sign + text[k:] for k in range(len(text) + 1)]
                others += [text[:k] + sign + text[k + 1:] for k in range(len(text))]
            for other in others:
                wanted = None if writes_a_part(other) else REFUSED
                self.assertEqual(refused(read_part, other), wanted, other)
                read_still += wanted is None
        self.assertGreater(read_still, 20)

    def test_words_in_any_order(self):
        words = ("level", "(", ")", "turned", "beside", "(turned", "level)")
        for many in range(1, 6):
            for row in itertools.product(words, repeat=many):
                for text in (" ".join(row), "".join(row)):
                    wanted = None if writes_a_part(text) else REFUSED
                    self.assertEqual(refused(read_part, text), wanted, text)

    def test_words_of_a_part_exchanged(self):
        chance = random.Random(107)
        words = ("level", "single", "beside", "above", "turned", "mirrored", "(", ")", " ", "")
        for tree in chance_trees(chance, 200, 10):
            pieces = re.findall(r"[a-z]+|[() ]", written_again(tree))
            for _ in range(2):
                pieces[chance.randrange(len(pieces))] = chance.choice(words)
                wanted = None if writes_a_part("".join(pieces)) else REFUSED
                self.assertEqual(refused(read_part, "".join(pieces)), wanted, "".join(pieces))


class Own(unittest.TestCase):
    def test_what_is_told_is_the_askers_own(self):
        chance = random.Random(108)
        for tree in trees(1) + chance_trees(chance, 20, 9):
            part = part_of(tree)
            told = part.sums()
            kept = dict(told)
            told.clear()
            told[()] = ()
            self.assertEqual(part.sums(), kept)
            self.assertEqual(part.web(), web_again(tree))

    def test_one_part_in_several_places(self):
        one = Beside(Single(), Level())
        part = Above(one, Beside(one, one))
        self.assertEqual(part.web(), web_again(as_tree(part)))
        self.assertEqual(part.sums(), plain_sums(part.web()))
        self.assertEqual(one.written(), "(single beside level)")


if __name__ == "__main__":
    unittest.main()
