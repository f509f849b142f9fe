"""The desk: webs kept by names, and rows of words that are answered with texts."""

from tanglehouse.colours import colours
from tanglehouse.easing import least_list
from tanglehouse.errors import NoName, NoRow, NoTurning
from tanglehouse.fractions import value
from tanglehouse.parts import read_part
from tanglehouse.plain import plain
from tanglehouse.polytexts import shown_polynomial
from tanglehouse.stores import sums
from tanglehouse.strands import links, turns
from tanglehouse.telling import compared
from tanglehouse.texts import read, shown
from tanglehouse.turnings import turned, turnings, weight_of
from tanglehouse.wholes import is_written

LETTERS = "abcdefghijklmnopqrstuvwxyz"
MOST_LETTERS = 8
MOST_FIGURES = 9
# So many numbers at most, and so much at most that they come to.
MOST_TWISTS = 40
LEAST_COLOURS = 2
MOST_COLOURS = 60
# How many names and how many numbers follow each word; behind those of LAYING there is a name and a text.
FOLLOWED_BY = {
    "show": (1, 0), "plain": (1, 0), "turnings": (1, 0), "turn": (1, 1), "back": (1, 0), "turns": (1, 0),
    "links": (1, 0), "colours": (1, 1), "sums": (1, 0), "tell": (2, 0),
}
LAYING = ("web", "part")


def is_name(word):
    """Whether a word is a name: one to eight small letters."""
    return 1 <= len(word) <= MOST_LETTERS and all([sign in LETTERS for sign in word])


def is_twist(word):
    """Whether a word writes a whole number, with a sign ahead of one below 0."""
    figures = word[1:] if word.startswith("-") else word
    return is_written(figures, MOST_FIGURES) and word != "-0"


def check_row(is_one):
    """None where a row is one of those that a desk takes; else NoRow."""
    if not is_one:
        raise NoRow("it is none of the rows that a desk takes")


def laying_of(row):
    """The word, the name and the text of a row that lays a web; or NoRow."""
    halves = row.partition(" ")
    rest = halves[2].partition(" ")
    # Without a blank behind the name there is no text, not even one without signs.
    check_row(is_name(rest[0]) and rest[1] == " ")
    return (halves[0], rest[0], rest[2])


def twists_of(words):
    """The list of twists that words write; or NoRow."""
    check_row(1 <= len(words) <= MOST_TWISTS and all([is_twist(word) for word in words]))
    twists = [int(word) for word in words]
    check_row(sum([abs(number) for number in twists]) <= MOST_TWISTS)
    return twists


def check_asking(words):
    """None of the words of a row that asks something of webs that stand by names, or does it; else NoRow."""
    check_row(words[0] in FOLLOWED_BY)
    names = FOLLOWED_BY[words[0]][0]
    numbers = FOLLOWED_BY[words[0]][1]
    check_row(len(words) == 1 + names + numbers)
    check_row(all([is_name(word) for word in words[1:1 + names]]))
    check_row(all([is_written(word, MOST_FIGURES) for word in words[1 + names:]]))
    if words[0] == "colours":
        check_row(LEAST_COLOURS <= int(words[2]) <= MOST_COLOURS)


def listed(numbers):
    """Numbers as words parted by blanks."""
    return " ".join([str(number) for number in numbers])


def joining_text(joining):
    """A joining as its pairs, `-` of the one without any."""
    if joining == ():
        return "-"
    return " ".join([f"{i}-{j}" for i, j in joining])


def sums_text(told):
    """Sums as a text, by joinings rising."""
    rows = [joining_text(joining) + ": " + shown_polynomial(one) for joining, one in sorted(told.items())]
    return "; ".join(rows) if rows else "none"


def telling_text(told):
    """What two webs are told to be: a word, with what it needs behind it."""
    if told[0] == "alike":
        return "alike"
    if told[0] == "apart":
        return "apart " + told[1]
    return "open " + listed(told[1:])


def answer(words, webs):
    """The answer to a row that asks something of webs, which stand by the names in it."""
    word = words[0]
    web = webs[0]
    if word == "show":
        return shown(web)
    if word == "plain":
        return shown(plain(web))
    if word == "turnings":
        return str(len(turnings(web)))
    if word == "turns":
        return str(turns(web))
    if word == "links":
        return listed(links(web)) or "none"
    if word == "colours":
        return str(colours(web, int(words[2])))
    if word == "sums":
        return sums_text(sums(web))
    return telling_text(compared(web, webs[1]))


class Desk:
    """Webs by names, and what is said of them."""

    def __init__(self):
        # For each name the web that was laid there, and what came of it turn by turn: the last one stands there.
        self.piles = {}

    def standing(self, name):
        """The web that stands by a name; or NoName."""
        if name not in self.piles:
            raise NoName(name)
        return self.piles[name][-1]

    def lay(self, row):
        """Lays the web that a row tells by its name; or NoRow, or what its text is refused with."""
        told = laying_of(row)
        web = read(told[2]) if told[0] == "web" else read_part(told[2]).web()
        self.piles[told[1]] = [web]
        return "ok"

    def turn(self, name, number):
        """Does the turning of this number; or NoTurning."""
        web = self.standing(name)
        known = turnings(web)
        if number >= len(known):
            raise NoTurning("there is no turning of this number")
        self.piles[name].append(turned(web, known[number]))
        return known[number][0] + " " + str(weight_of(known[number]))

    def turn_back(self, name):
        """Takes the last turn back; or NoTurning."""
        if len(self.piles[name]) == 1:
            raise NoTurning("there is no turn to be taken back")
        self.piles[name].pop()
        return "ok"

    def say(self, row):
        """The answer to a row; or NoRow, NoName, or what the row's text or deed is refused with."""
        check_row(isinstance(row, str))
        words = row.split(" ")
        if words[0] in LAYING:
            return self.lay(row)
        if words[0] == "ease":
            return listed(least_list(value(twists_of(words[1:]))))
        check_asking(words)
        webs = [self.standing(name) for name in words[1:1 + FOLLOWED_BY[words[0]][0]]]
        if words[0] == "turn":
            return self.turn(words[1], int(words[2]))
        if words[0] == "back":
            return self.turn_back(words[1])
        return answer(words, webs)
