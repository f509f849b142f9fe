"""What several tests need: known webs, webs made by chance from a fixed seed, and refusals caught."""

from tanglehouse.errors import TangleError

NOTHING = ((), (), 0)
TREFOIL = (((1, 5, 2, 4), (3, 1, 4, 6), (5, 3, 6, 2)), (), 0)
FIGURE_EIGHT = (((4, 2, 5, 1), (8, 6, 1, 5), (6, 3, 7, 4), (2, 7, 3, 8)), (), 0)
HOPF = (((4, 1, 3, 2), (2, 3, 1, 4)), (), 0)
CURL = (((0, 0, 1, 1),), (), 0)
SINGLE = (((0, 1, 2, 3),), (0, 1, 2, 3), 0)
LEVEL = ((), (0, 1, 1, 0), 0)
UPRIGHT = ((), (0, 0, 1, 1), 0)
CROSSED_ENDS = ((), (0, 1, 0, 1), 0)
TORUS = (((0, 1, 0, 1),), (), 0)
KNOWN = (NOTHING, TREFOIL, FIGURE_EIGHT, HOPF, CURL, SINGLE, LEVEL, UPRIGHT, CROSSED_ENDS, TORUS)


def refusal(function, *given):
    """The refusal that a call ends with, or None."""
    try:
        function(*given)
    except TangleError as error:
        return error
    return None


def refused(function, *given):
    """The class of a call's refusal and its fields, or None."""
    error = refusal(function, *given)
    if error is None:
        return None
    return (type(error), vars(error))


def chance_web(chance, crossings, ends, rings, names=10 ** 9):
    """A web whose arcs join places by chance (so most aren't flat); 4 * crossings + ends is even."""
    many = 4 * crossings + ends
    arcs = chance.sample(range(names), many // 2) * 2
    chance.shuffle(arcs)
    rows = tuple(tuple(arcs[4 * k:4 * k + 4]) for k in range(crossings))
    return (rows, tuple(arcs[4 * crossings:]), rings)


def some_webs(chance, many):
    """The known webs and webs of all small sizes by chance."""
    told = list(KNOWN)
    for _ in range(many):
        ends = 2 * chance.randrange(5)
        told.append(chance_web(chance, chance.randrange(9), ends, chance.choice((0, 0, 1, 20))))
    return told


def flat_web(chance, steps, shut):
    """A web laid within its rim step by step: an arc between neighbouring ends, or a crossing over two."""
    crossings, ends, fresh = [], [], 0
    for _ in range(steps):
        place = chance.randrange(len(ends) + 1)
        ends = ends[place:] + ends[:place]
        if len(ends) < 2 or (len(ends) < 8 and chance.randrange(3) == 0):
            ends = [fresh, fresh] + ends
            fresh += 1
        else:
            # From its lower left place on, leftwards: the old ends are met in the order against theirs.
            row = [ends[1], ends[0], fresh, fresh + 1]
            turn = chance.randrange(4)
            crossings.append(row[turn:] + row[:turn])
            ends = [fresh, fresh + 1] + ends[2:]
            fresh += 2
    rings = 0
    while shut and ends:
        gone, kept = ends[0], ends[1]
        if gone == kept:
            rings += 1
        crossings = [[kept if arc == gone else arc for arc in row] for row in crossings]
        ends = [kept if arc == gone else arc for arc in ends[2:]]
    return (tuple(tuple(row) for row in crossings), tuple(ends), rings)
