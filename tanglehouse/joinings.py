"""Joinings: tuples of pairs, rising, of what strands join; and sums by joinings."""

from tanglehouse.polynomials import plus


def partners_of(joining):
    """For each member of a joining the one that it is joined with."""
    partners = {}
    for one, other in joining:
        partners[one] = other
        partners[other] = one
    return partners


def joining_of(partners):
    """The joining by which each member has its partner."""
    return tuple(sorted([(one, other) for one, other in partners.items() if one < other]))


def lay(partners, one, other):
    """Lays a strand from one to other; how many rings close by it."""
    # Where a strand reaches one or other already, this is an arc's second place: both strands go on into one.
    if partners.get(one, one) == other:
        partners.pop(one, None)
        partners.pop(other, None)
        return 1
    start = partners.pop(one, one)
    finish = partners.pop(other, other)
    partners[start] = finish
    partners[finish] = start
    return 0


def add_to(told, joining, polynomial):
    """Adds a polynomial to the sum that a dict tells of a joining."""
    told[joining] = plus(told.get(joining, ()), polynomial)


def without_noughts(told):
    """A dict of the sums that aren't nought."""
    kept = {}
    for joining, polynomial in told.items():
        if polynomial != ():
            kept[joining] = polynomial
    return kept
