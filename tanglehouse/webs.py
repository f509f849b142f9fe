"""Webs: tuples (crossings, ends, rings), their places and the names of their arcs."""

from tanglehouse.errors import NoWeb, Odd
from tanglehouse.wholes import is_whole

RIM = -1


def is_count(thing):
    """Whether a thing is a whole number from 0 on."""
    return is_whole(thing) and thing >= 0


def are_arcs(thing):
    """Whether a thing is a tuple of arcs."""
    return isinstance(thing, tuple) and all([is_count(arc) for arc in thing])


def is_crossing(thing):
    """Whether a thing is a tuple of four arcs."""
    return are_arcs(thing) and len(thing) == 4


def is_made_as_web(thing):
    """Whether a thing is a web, wherever its arcs stand."""
    if not isinstance(thing, tuple) or len(thing) != 3:
        return False
    if not isinstance(thing[0], tuple) or not all([is_crossing(crossing) for crossing in thing[0]]):
        return False
    return are_arcs(thing[1]) and is_count(thing[2])


def places(web):
    """For each arc the list of its places, by arcs in the order in which they first come."""
    told = {}
    for k, crossing in enumerate(web[0]):
        for j, arc in enumerate(crossing):
            told.setdefault(arc, []).append((k, j))
    for j, arc in enumerate(web[1]):
        told.setdefault(arc, []).append((RIM, j))
    return told


def check_web(thing):
    """None of a web; NoWeb or Odd of any other thing."""
    if not is_made_as_web(thing):
        raise NoWeb("it isn't made as a web is")
    odd = [arc for arc, stands in places(thing).items() if len(stands) != 2]
    if odd:
        raise Odd(min(odd))


def renamed(arcs, names):
    """A tuple of arcs, each by its name in a dict."""
    return tuple([names[arc] for arc in arcs])


def named_anew(web):
    """The web, its arcs called 0, 1, 2 .. in the order in which they first come."""
    names = {}
    for arc in places(web):
        names[arc] = len(names)
    crossings = tuple([renamed(crossing, names) for crossing in web[0]])
    return (crossings, renamed(web[1], names), web[2])


def alike_webs(one, other):
    """Whether two webs are alike but for the names of their arcs."""
    return named_anew(one) == named_anew(other)


def mirrored(web):
    """The web with each crossing told from its second place on: what lay above lies beneath."""
    crossings = tuple([crossing[1:] + crossing[:1] for crossing in web[0]])
    return (crossings, web[1], web[2])


def shifted(web, many):
    """The web with its ends told from the end of this number on."""
    return (web[0], web[1][many:] + web[1][:many], web[2])
