"""Sums part by part: crossings are taken one by one, and only sums by the arcs that are open behind them are kept."""

from tanglehouse.errors import TooWide
from tanglehouse.joinings import add_to, joining_of, partners_of, without_noughts
from tanglehouse.polynomials import times
from tanglehouse.ways import join_ends, open_crossing, weight

WIDEST = 8


def front_behind(front, crossing):
    """The arcs, rising, that are open once a crossing is taken where those of a front were open."""
    arcs = front + list(crossing)
    return sorted([arc for arc in arcs if arcs.count(arc) == 1])


def next_crossing(web, front, left):
    """Of the crossings that are left, told rising, the one to be taken next."""
    return min(left, key=lambda k: (len(front_behind(front, web[0][k])), k))


def taken(web):
    """The crossings' numbers as they are taken, each with the front behind it."""
    rows = []
    front = []
    left = list(range(len(web[0])))
    while left:
        k = next_crossing(web, front, left)
        left.remove(k)
        front = front_behind(front, web[0][k])
        rows.append((k, front))
    return rows


def order_of(web):
    """The crossings' numbers as they are taken."""
    return [k for k, front in taken(web)]


def fronts(web):
    """The lists of the arcs that are open behind each crossing taken."""
    return [front for k, front in taken(web)]


def check_narrow(web):
    """None of a web whose fronts are narrow enough; TooWide of any other one."""
    for k, front in taken(web):
        if len(front) > WIDEST:
            raise TooWide(k)


def store_behind(store, crossing):
    """The store that comes of a store where one more crossing is taken."""
    told = {}
    for joining, polynomial in store.items():
        for way in (0, 1):
            partners = partners_of(joining)
            rings = open_crossing(partners, crossing, way)
            add_to(told, joining_of(partners), times(polynomial, weight((way,), rings)))
    return without_noughts(told)


def first_store():
    """The store ahead of the first crossing: nothing is open, and there is one way, of no crossings."""
    return {(): weight((), 0)}


def stores(web):
    """The crossings' numbers as they are taken, each with the store behind it; or TooWide."""
    check_narrow(web)
    rows = []
    store = first_store()
    for k in order_of(web):
        store = store_behind(store, web[0][k])
        rows.append((k, store))
    return rows


def sums(web):
    """For each joining of the ends the sum of the weights of all ways by which it comes; or TooWide."""
    rows = stores(web)
    store = rows[-1][1] if rows else first_store()
    own = weight((), web[2])
    told = {}
    for joining, polynomial in store.items():
        told[join_ends(partners_of(joining), web[1])] = times(polynomial, own)
    return told
