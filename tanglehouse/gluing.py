"""Webs put together: shut at neighbouring ends, glued along their rims; tangles beside and above one another."""

from tanglehouse.webs import named_anew, places, shifted


def called(arcs, gone, kept):
    """A tuple of arcs, the one that goes called like the one that is kept."""
    return tuple([kept if arc == gone else arc for arc in arcs])


def shut_as_named(web, place):
    """The web shut at an end, its arcs called as they were."""
    after = (place + 1) % len(web[1])
    gone = web[1][place]
    kept = web[1][after]
    ends = tuple([arc for j, arc in enumerate(web[1]) if j not in (place, after)])
    # An arc from the one end to the other closes without a crossing.
    if gone == kept:
        return (web[0], ends, web[2] + 1)
    crossings = tuple([called(crossing, gone, kept) for crossing in web[0]])
    return (crossings, called(ends, gone, kept), web[2])


def shut(web, place):
    """The web with the end of this number and the next one joined, named anew."""
    return named_anew(shut_as_named(web, place))


def raised(arcs, many):
    """A tuple of arcs, each called by a number so much more."""
    return tuple([arc + many for arc in arcs])


def both(one, other):
    """Two webs as one, no end joined: the other's crossings and ends behind the one's, rings together."""
    first = named_anew(one)
    # The one's arcs are called by numbers below many then, so the other's arcs come to stand apart from them.
    many = len(places(first))
    crossings = first[0] + tuple([raised(crossing, many) for crossing in other[0]])
    return (crossings, first[1] + raised(other[1], many), first[2] + other[2])


def glued(one, other, many):
    """Two webs with so many of the one's last ends joined with the other's first ones, named anew."""
    web = both(one, other)
    # With the one's last end and the other's first one gone, the next two to be joined are neighbours again.
    for k in range(many):
        web = shut_as_named(web, len(one[1]) - 1 - k)
    return named_anew(web)


def beside(one, other):
    """The tangle of the one with the other on its right."""
    return glued(one, other, 2)


def quarter(one):
    """The tangle turned leftwards by a quarter."""
    return named_anew(shifted(one, 3))


def above(one, other):
    """The tangle of the one with the other beneath it."""
    # Turned leftwards both stand beside one another, the upper one on the left.
    return named_anew(shifted(beside(quarter(one), quarter(other)), 1))


def closed(one, way):
    """The diagram of a tangle with its upper and its lower ends joined (way 0), or its left and its right ones."""
    return shut(shut(one, 3 if way == 0 else 0), 0)
