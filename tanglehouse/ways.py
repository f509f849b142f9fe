"""Crossings opened: the strands and rings that come of it, and the sums over all ways, way by way."""

from tanglehouse.errors import TooMany
from tanglehouse.joinings import add_to, joining_of, lay, without_noughts
from tanglehouse.webs import RIM

MOST_CROSSINGS = 10
# Of each way the places that it joins.
JOINED = (((0, 1), (2, 3)), ((0, 3), (1, 2)))


def open_crossing(partners, crossing, way):
    """Lays the two strands of a crossing opened by a way; how many rings close by them."""
    rings = 0
    for pair in JOINED[way]:
        rings = rings + lay(partners, crossing[pair[0]], crossing[pair[1]])
    return rings


def join_ends(partners, ends):
    """The joining of the ends' numbers, once every strand from arc to arc is laid."""
    # The ends are laid to by their places, which can't be taken for arcs.
    for j, arc in enumerate(ends):
        lay(partners, arc, (RIM, j))
    return tuple([(one[1], other[1]) for one, other in joining_of(partners)])


def opened(web, ways):
    """The joining of the ends, and the rings, with each crossing opened by its way."""
    partners = {}
    rings = web[2]
    for crossing, way in zip(web[0], ways):
        rings = rings + open_crossing(partners, crossing, way)
    return (join_ends(partners, web[1]), rings)


def weight(ways, rings):
    """What ways, and the rings that come of them, count for."""
    power = ways.count(0) - ways.count(1) - 2 * rings
    number = 1 if rings % 2 == 0 else -1
    terms = []
    for k in range(rings + 1):
        terms.append((power + 4 * k, number))
        # From the binomial number of k to that of k + 1, which leaves nothing over: so many rings cost little.
        number = number * (rings - k) // (k + 1)
    return tuple(terms)


def all_ways(many):
    """All ways to open so many crossings."""
    rows = [()]
    for k in range(many):
        rows = [ways + (0,) for ways in rows] + [ways + (1,) for ways in rows]
    return rows


def plain_sums(web):
    """For each joining the sum of the weights of all ways by which it comes; or TooMany."""
    if len(web[0]) > MOST_CROSSINGS:
        raise TooMany("it has too many crossings to be reckoned way by way")
    told = {}
    for ways in all_ways(len(web[0])):
        made = opened(web, ways)
        add_to(told, made[0], weight(ways, made[1]))
    return without_noughts(told)
