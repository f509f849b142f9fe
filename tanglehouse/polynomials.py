"""Polynomials: tuples of (power, number), the powers of x rising and none twice, no number 0."""

from tanglehouse.wholes import is_whole


def is_term(thing):
    """Whether a thing is a tuple of a power and a number that isn't 0."""
    if not isinstance(thing, tuple) or len(thing) != 2:
        return False
    return is_whole(thing[0]) and is_whole(thing[1]) and thing[1] != 0


def is_polynomial(thing):
    """Whether any thing is a polynomial."""
    if not isinstance(thing, tuple) or not all([is_term(term) for term in thing]):
        return False
    return all([term[0] < after[0] for term, after in zip(thing, thing[1:])])


def gathered(terms):
    """The polynomial of terms in any order, of which several may have one power."""
    numbers = {}
    for power, number in terms:
        numbers[power] = numbers.get(power, 0) + number
    return tuple([(power, numbers[power]) for power in sorted(numbers) if numbers[power] != 0])


def plus(one, other):
    """The sum of two polynomials."""
    return gathered(one + other)


def minus(one, other):
    """The one polynomial less the other."""
    return gathered(one + tuple([(power, -number) for power, number in other]))


def times(one, other):
    """The product of two polynomials."""
    terms = []
    for power, number in one:
        terms.extend([(power + more, number * factor) for more, factor in other])
    return gathered(terms)


def lifted(one, many):
    """The polynomial with each power so much more."""
    return tuple([(power + many, number) for power, number in one])


def turned_about(one):
    """The polynomial with the other sign of each power."""
    return tuple([(-power, number) for power, number in reversed(one)])
