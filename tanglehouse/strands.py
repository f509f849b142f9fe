"""Strands: which arcs they go along, which ends they join, how they turn and are linked."""

from tanglehouse.faces import parted, twins
from tanglehouse.polynomials import times
from tanglehouse.stores import sums
from tanglehouse.webs import RIM


def opposite(place):
    """The place of a crossing at which a strand goes on that came to this one."""
    return (place[0], (place[1] + 2) % 4)


def walk_from(others, first):
    """The places that a strand passes from one on, out at each and in at its twin, to an end or till it closes."""
    walk = [first, others[first]]
    while walk[-1][0] != RIM and opposite(walk[-1]) != first:
        out = opposite(walk[-1])
        walk.extend([out, others[out]])
    return walk


def walks(web):
    """For each strand the places that it passes; those with ends from the end of the lesser number on."""
    others = twins(web)
    # The rim's places are less than all others: no strand with ends is walked from its middle.
    return parted(others, lambda place: walk_from(others, place))


def arc_at(web, place):
    """The arc that stands at a place."""
    return web[1][place[1]] if place[0] == RIM else web[0][place[0]][place[1]]


def arcs_along(web, walk):
    """The arcs, rising, of a strand that is walked."""
    # Each arc is gone out along once; its other place is the next one.
    return sorted([arc_at(web, place) for place in walk[::2]])


def strands(web):
    """The strands, rising, each as the list of its arcs, rising."""
    return sorted([arcs_along(web, walk) for walk in walks(web)])


def how_strung(web):
    """How many strands close, rings among them, and the joining of the ends by the others."""
    joining = []
    closed = web[2]
    for walk in walks(web):
        if walk[0][0] == RIM:
            joining.append((walk[0][1], walk[-1][1]))
        else:
            closed = closed + 1
    return (closed, tuple(sorted(joining)))


def passings(web):
    """For each crossing's number and 0 (beneath) or 1 (above) the strand's number, and 1 or -1 by its direction."""
    told = {}
    for number, walk in enumerate(walks(web)):
        for k, place in walk[1::2]:
            # Of the two ways that make the sign 1 the one comes in at 0, the other at 3.
            told[(k, place % 2)] = (number, 1 if place in (0, 3) else -1)
    return told


def meetings(web):
    """For each crossing the numbers of the two strands that meet there, the lesser first, and its sign."""
    passed = passings(web)
    told = []
    for k in range(len(web[0])):
        beneath = passed[(k, 0)]
        above = passed[(k, 1)]
        pair = (min(beneath[0], above[0]), max(beneath[0], above[0]))
        told.append((pair, beneath[1] * above[1]))
    return told


def turns(web):
    """The sum of the signs of all crossings at which a strand meets itself."""
    return sum([sign for pair, sign in meetings(web) if pair[0] == pair[1]])


def links(web):
    """The numbers, rising, by which two strands are linked, but 0."""
    told = {}
    for pair, sign in meetings(web):
        if pair[0] != pair[1]:
            told[pair] = told.get(pair, 0) + sign
    return sorted([abs(number) for number in told.values() if number != 0])


def of_curls(many):
    """The polynomial -x^3 to a power of any sign."""
    return ((3 * many, 1 if many % 2 == 0 else -1),)


def own_sums(web):
    """The sums of a web without what its turns count for, which turnings don't change; or TooWide."""
    factor = of_curls(-turns(web))
    told = {}
    for joining, polynomial in sums(web).items():
        told[joining] = times(polynomial, factor)
    return told
