"""Webs as texts: `x` and four arcs for each crossing, `e` and the ends, `o` and the rings."""

from tanglehouse.errors import NoText
from tanglehouse.webs import check_web
from tanglehouse.wholes import is_written

MOST_FIGURES = 9


def words_by(letter, numbers):
    """The words of a letter and the numbers behind it."""
    return [letter] + [str(number) for number in numbers]


def shown(web):
    """The text by which a web is written."""
    words = []
    for crossing in web[0]:
        words.extend(words_by("x", crossing))
    if web[1]:
        words.extend(words_by("e", web[1]))
    if web[2] > 0:
        words.extend(words_by("o", [web[2]]))
    return " ".join(words)


def words_of(text):
    """The words of a text, those without signs among them."""
    # A text without signs has no words, but Python splits one word off it.
    if text == "":
        return []
    return text.split(" ")


def stands(words, at, letter):
    """Whether this letter is the word at a place, which may lie behind the last word."""
    return at < len(words) and words[at] == letter


def number_at(words, at):
    """The number that must stand at a place; behind the last word the text ends too early."""
    if at >= len(words) or not is_written(words[at], MOST_FIGURES):
        raise NoText(at)
    return int(words[at])


def read_crossings(words):
    """The crossings with which a row of words begins."""
    crossings = []
    at = 0
    while stands(words, at, "x"):
        crossings.append(tuple([number_at(words, at + k) for k in range(1, 5)]))
        at = at + 5
    return tuple(crossings)


def read_ends(words, at):
    """The ends that are told from the word at a place on, or none."""
    if not stands(words, at, "e"):
        return ()
    ends = [number_at(words, at + 1)]
    after = at + 2
    while after < len(words) and words[after] != "o":
        ends.append(number_at(words, after))
        after = after + 1
    return tuple(ends)


def read_rings(words, at):
    """How many rings are told from the word at a place on, with nothing behind them."""
    if at == len(words):
        return 0
    if words[at] != "o":
        raise NoText(at)
    rings = number_at(words, at + 1)
    # No rings are written by no word at all.
    if rings == 0:
        raise NoText(at + 1)
    if at + 2 < len(words):
        raise NoText(at + 2)
    return rings


def read(text):
    """The web that a text writes; NoText, or Odd."""
    if not isinstance(text, str):
        raise NoText(0)
    words = words_of(text)
    crossings = read_crossings(words)
    at = 5 * len(crossings)
    ends = read_ends(words, at)
    if ends:
        at = at + 1 + len(ends)
    web = (crossings, ends, read_rings(words, at))
    check_web(web)
    return web
