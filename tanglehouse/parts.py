"""Parts: tangles told by how they are put together, with their webs, sums and texts."""

from tanglehouse.errors import NoText
from tanglehouse.gluedsums import glued_sums, mirrored_sums, shifted_sums
from tanglehouse.gluing import above, beside, quarter
from tanglehouse.ways import plain_sums
from tanglehouse.webs import mirrored, named_anew

MOST_OPEN = 8


class Part:
    """What all parts are."""


class Level(Part):
    """Two arcs from left to right."""

    def web(self):
        return ((), (0, 1, 1, 0), 0)

    def sums(self):
        return plain_sums(self.web())

    def written(self):
        return "level"


class Upright(Part):
    """Two arcs from above to below."""

    def web(self):
        return ((), (0, 0, 1, 1), 0)

    def sums(self):
        return plain_sums(self.web())

    def written(self):
        return "upright"


class Single(Part):
    """A crossing whose strand from lower left to upper right lies above."""

    def web(self):
        return (((0, 1, 2, 3),), (0, 1, 2, 3), 0)

    def sums(self):
        return plain_sums(self.web())

    def written(self):
        return "single"


class Beside(Part):
    """The one with the other on its right."""

    def __init__(self, one, other):
        self.one = one
        self.other = other

    def web(self):
        return beside(self.one.web(), self.other.web())

    def sums(self):
        return beside_sums(self.one.sums(), self.other.sums())

    def written(self):
        one = self.one.written()
        other = self.other.written()
        return f"({one} beside {other})"


class Above(Part):
    """The one with the other beneath it."""

    def __init__(self, one, other):
        self.one = one
        self.other = other

    def web(self):
        return above(self.one.web(), self.other.web())

    def sums(self):
        # As webs are put above one another: turned, beside one another, and turned back.
        turned = beside_sums(quarter_sums(self.one.sums()), quarter_sums(self.other.sums()))
        return shifted_sums(turned, 4, 1)

    def written(self):
        one = self.one.written()
        other = self.other.written()
        return f"({one} above {other})"


class Turned(Part):
    """The one turned leftwards by a quarter."""

    def __init__(self, one):
        self.one = one

    def web(self):
        return quarter(self.one.web())

    def sums(self):
        return quarter_sums(self.one.sums())

    def written(self):
        one = self.one.written()
        return f"(turned {one})"


class Mirrored(Part):
    """The one with what lay above beneath."""

    def __init__(self, one):
        self.one = one

    def web(self):
        return named_anew(mirrored(self.one.web()))

    def sums(self):
        return mirrored_sums(self.one.sums())

    def written(self):
        one = self.one.written()
        return f"(mirrored {one})"


def beside_sums(one, other):
    """The sums of a tangle beside another one, of theirs."""
    return glued_sums(one, 4, other, 4, 2)


def quarter_sums(one):
    """The sums of a tangle turned by a quarter, of its own."""
    return shifted_sums(one, 4, 3)


def part_or_word(word):
    """The part that a word writes by itself, or the word."""
    if word == "level":
        return Level()
    if word == "upright":
        return Upright()
    if word == "single":
        return Single()
    return word


def are_parts(things):
    """Whether all of some things are parts."""
    return all([isinstance(thing, Part) for thing in things])


def made_of_one(word, one):
    """The part that a word and the part behind it write in brackets."""
    if word == "turned":
        return Turned(one)
    if word == "mirrored":
        return Mirrored(one)
    raise NoText(0)


def made_of_two(one, word, other):
    """The part that two parts with a word between them write in brackets."""
    if word == "beside":
        return Beside(one, other)
    if word == "above":
        return Above(one, other)
    raise NoText(0)


def made(row):
    """The part that is written in brackets by a row of parts and words."""
    if len(row) == 2 and are_parts(row[1:]):
        return made_of_one(row[0], row[1])
    if len(row) == 3 and are_parts(row[0::2]):
        return made_of_two(row[0], row[1], row[2])
    raise NoText(0)


def bracket_words(text):
    """The words of a text, each bracket a word by itself."""
    # Just one blank is laid beside each bracket: where there was one already, a word without signs comes of it.
    return text.replace("(", "( ").replace(")", " )").split(" ")


def check_brackets(words):
    """None of words whose brackets close, not more than eight open at once; else NoText."""
    many = 0
    for word in words:
        if word == "(":
            many = many + 1
        elif word == ")":
            many = many - 1
        if many < 0 or many > MOST_OPEN:
            raise NoText(0)
    if many > 0:
        raise NoText(0)


def read_part(text):
    """The part that a text writes, or NoText."""
    if not isinstance(text, str):
        raise NoText(0)
    words = bracket_words(text)
    check_brackets(words)
    # Behind the row of the whole text, for each bracket that is open the row of what was read in it.
    rows = [[]]
    for word in words:
        if word == "(":
            rows.append([])
        elif word == ")":
            part = made(rows.pop())
            rows[-1].append(part)
        else:
            rows[-1].append(part_or_word(word))
    if len(rows[0]) != 1 or not are_parts(rows[0]):
        raise NoText(0)
    return rows[0][0]
