"""Polynomials as texts: their terms rising, as in `-x^-2 + 3 - 2x`; nought is `0`."""

from tanglehouse.errors import NoText
from tanglehouse.polynomials import is_polynomial
from tanglehouse.wholes import is_written

MOST_FIGURES = 60


def shown_power(power):
    """How a power of x is written in a term."""
    if power == 0:
        return ""
    if power == 1:
        return "x"
    return f"x^{power}"


def shown_term(term):
    """How a term is written, but for its number's sign."""
    figures = str(abs(term[1]))
    power = shown_power(term[0])
    if figures == "1" and power != "":
        return power
    return figures + power


def shown_polynomial(one):
    """The text by which a polynomial is written."""
    if one == ():
        return "0"
    words = []
    for term in one:
        words.extend(["-" if term[1] < 0 else "+", shown_term(term)])
    # The first sign stands without the blank behind it, and is left out where it is +.
    first = "-" if one[0][1] < 0 else ""
    return first + " ".join(words[1:])


def words_by_signs(text):
    """The words of a text, beginning with the sign of the first term."""
    if text.startswith("-"):
        return ["-"] + text[1:].split(" ")
    return ["+"] + text.split(" ")


def read_number(word):
    """The number from 0 on that a word writes."""
    if not is_written(word, MOST_FIGURES):
        raise NoText(0)
    return int(word)


def read_power(word):
    """The power that is told by what stands behind an x."""
    if word == "":
        return 1
    if word.startswith("^-"):
        return -read_number(word[2:])
    return read_number(word[1:])


def read_term(sign, word):
    """The term that a sign and the word behind it tell, if they tell one."""
    parts = word.partition("x")
    number = 1 if parts[0] == "" else read_number(parts[0])
    power = 0 if parts[1] == "" else read_power(parts[2])
    return (power, -number if sign == "-" else number)


def read_polynomial(text):
    """The polynomial that a text writes, or NoText."""
    if not isinstance(text, str):
        raise NoText(0)
    if text == "0":
        return ()
    words = words_by_signs(text)
    one = tuple([read_term(sign, word) for sign, word in zip(words[0::2], words[1::2])])
    # Words are read loosely above: a polynomial has just one text, so only what is written again alike is let by.
    if not is_polynomial(one) or shown_polynomial(one) != text:
        raise NoText(0)
    return one
