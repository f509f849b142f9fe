"""Sums of what is put together, reckoned of the sums and the numbers of ends of its parts alone."""

from tanglehouse.joinings import add_to, joining_of, lay, partners_of, without_noughts
from tanglehouse.polynomials import times, turned_about
from tanglehouse.ways import weight


def numbers_by(order):
    """For each end that is told in an order its number there."""
    numbers = {}
    for number, end in enumerate(order):
        numbers[end] = number
    return numbers


def renumbered(joining, numbers):
    """The joining with each end called by its number in a dict."""
    partners = {}
    for one, other in partners_of(joining).items():
        partners[numbers[one]] = numbers[other]
    return joining_of(partners)


def shifted_sums(sums, ends, many):
    """The sums of a web shifted by many, of its own."""
    numbers = numbers_by(list(range(many, ends)) + list(range(many)))
    told = {}
    for joining, polynomial in sums.items():
        told[renumbered(joining, numbers)] = polynomial
    return told


def mirrored_sums(sums):
    """The sums of a mirrored web, of its own."""
    told = {}
    for joining, polynomial in sums.items():
        told[joining] = turned_about(polynomial)
    return told


def shut_sums(sums, ends, place):
    """The sums of a web shut at an end, of its own."""
    after = (place + 1) % ends
    numbers = numbers_by([end for end in range(ends) if end not in (place, after)])
    told = {}
    for joining, polynomial in sums.items():
        partners = partners_of(joining)
        rings = lay(partners, place, after)
        add_to(told, renumbered(joining_of(partners), numbers), times(polynomial, weight((), rings)))
    return without_noughts(told)


def both_sums(one, one_ends, other):
    """The sums of two webs as one, no end joined, the other's ends behind the one's."""
    told = {}
    for joining, polynomial in one.items():
        for after, factor in other.items():
            behind = tuple([(i + one_ends, j + one_ends) for i, j in after])
            told[joining + behind] = times(polynomial, factor)
    return told


def glued_sums(one, one_ends, other, other_ends, many):
    """The sums of two webs glued by many ends, of theirs."""
    told = both_sums(one, one_ends, other)
    for k in range(many):
        told = shut_sums(told, one_ends + other_ends - 2 * k, one_ends - 1 - k)
    return told
