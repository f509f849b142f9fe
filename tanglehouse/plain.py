"""Plain forms: crossings told anew by walks, so that webs which are one but for names have one form; and namings."""

from tanglehouse.faces import pieces, twins
from tanglehouse.webs import RIM, named_anew, places, renamed


def darts_from(web, gate):
    """The darts of a crossing, told from a gate on, or those of the rim."""
    if gate[0] == RIM:
        return [(RIM, end) for end in range(len(web[1]))]
    return [(gate[0], (gate[1] + more) % 4) for more in range(4)]


def gate_ahead(place):
    """The gate from which a crossing is told that a walk comes to at a place."""
    return (place[0], place[1] - place[1] % 2)


def gates_from(web, others, first):
    """The gates of all crossings of a piece, as they come by the walk from the first one; others are the twins."""
    gates = [first]
    came = {first[0]: True}
    at = 0
    while at < len(gates):
        darts = darts_from(web, gates[at])
        for dart in darts:
            gate = gate_ahead(others[dart])
            if gate[0] not in came:
                came[gate[0]] = True
                gates.append(gate)
        at = at + 1
    return gates


def told_from(web, gate):
    """The crossing of a gate, told from there on."""
    crossing = web[0][gate[0]]
    return crossing[gate[1]:] + crossing[:gate[1]]


def walked(web, others, first):
    """The crossings of a piece as the walk from a gate tells them, their arcs as they are called in the web."""
    return tuple([told_from(web, gate) for gate in gates_from(web, others, first) if gate[0] != RIM])


def called_anew(crossings):
    """Crossings with their arcs called 0, 1, 2 .. as they first stand in them."""
    return named_anew((crossings, (), 0))[0]


def told_by(web, gate):
    """The crossings of a piece without ends as the walk from a gate tells them, their arcs called anew."""
    return called_anew(walked(web, twins(web), gate))


def least_walk(web, others, piece):
    """The least that the walks of a piece without ends tell, and the same with its arcs as they are called."""
    walks = []
    for k in piece:
        for place in (0, 2):
            crossings = walked(web, others, (k, place))
            walks.append((called_anew(crossings), crossings))
    return min(walks)


def in_plain_order(web):
    """The web with its crossings in the order of its plain form and told as there, its arcs as they are called."""
    others = twins(web)
    # The rim is walked from as from a gate; without ends no crossing comes from there.
    crossings = walked(web, others, (RIM, 0))
    closed = [least_walk(web, others, piece) for piece in pieces(web) if RIM not in piece]
    for told, called in sorted(closed):
        crossings = crossings + called
    return (crossings, web[1], web[2])


def plain(web):
    """The plain form of a web, the same for all webs that are alike."""
    return named_anew(in_plain_order(web))


def naming(one, other):
    """A naming from one web to another one, or None where they aren't alike."""
    ones = in_plain_order(one)
    others = in_plain_order(other)
    if named_anew(ones) != named_anew(others):
        return None
    return dict(zip(places(ones), places(others)))


def told_either_way(crossing):
    """A crossing told from its first or from its third place on, whichever is less."""
    return min(crossing, crossing[2:] + crossing[:2])


def is_naming(one, other, naming):
    """Whether a dict from whole numbers to whole numbers is a naming from one web to another one."""
    if one[2] != other[2] or sorted(naming) != sorted(places(one)):
        return False
    if renamed(one[1], naming) != other[1]:
        return False
    # Unlike arcs have unlike ones then: an arc of the other web stands at no more than two places there.
    crossings = sorted([told_either_way(renamed(crossing, naming)) for crossing in one[0]])
    return crossings == sorted([told_either_way(crossing) for crossing in other[0]])
