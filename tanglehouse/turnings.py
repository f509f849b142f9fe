"""Turnings: at faces of one, two or three corners a web becomes another one, and the knot stays."""

from tanglehouse.errors import NoTurning
from tanglehouse.faces import faces
from tanglehouse.gluing import shut_as_named
from tanglehouse.webs import RIM, named_anew
from tanglehouse.wholes import is_whole

# By how many corners they have.
WORDS = {1: "curl", 2: "slide", 3: "over"}


def word_of(face):
    """The word of the turning at a face, or None where there is none."""
    numbers = [k for k, i in face]
    if len(face) not in WORDS or RIM in numbers or len(set(numbers)) < len(face):
        return None
    odd = sum([i % 2 for k, i in face])
    # With all corners even, or all odd, each strand comes from above to beneath, or from beneath to above.
    if len(face) > 1 and odd in (0, len(face)):
        return None
    return WORDS[len(face)]


def turnings(web):
    """The turnings of a web, rising."""
    told = []
    for face in faces(web):
        word = word_of(face)
        if word is not None:
            told.append((word, tuple(face)))
    return sorted(told)


def is_corner(thing):
    """Whether a thing is a tuple of two whole numbers."""
    return isinstance(thing, tuple) and len(thing) == 2 and all([is_whole(number) for number in thing])


def is_turning(web, thing):
    """Whether any thing is a turning of a web."""
    if not isinstance(thing, tuple) or len(thing) != 2 or not isinstance(thing[1], tuple):
        return False
    # To Python True and False are the same as 1 and 0.
    return all([is_corner(corner) for corner in thing[1]]) and thing in turnings(web)


def arc_from(web, corner, many):
    """The arc that stands so many places on from a corner's own."""
    return web[0][corner[0]][(corner[1] + many) % 4]


def taken_out(web, corners, pairs):
    """The web without the crossings of these corners, both arcs of each pair joined, as they were called."""
    gone = [k for k, i in corners]
    crossings = tuple([crossing for k, crossing in enumerate(web[0]) if k not in gone])
    ends = web[1]
    for pair in pairs:
        ends = ends + pair
    made = (crossings, ends, web[2])
    # Arcs are joined as ends are: those of the pairs stand behind the web's own for as long.
    for pair in pairs:
        made = shut_as_named(made, len(web[1]))
    return made


def without_curl(web, corners):
    """What comes of a web by a curl, as it was named."""
    corner = corners[0]
    return taken_out(web, corners, [(arc_from(web, corner, 2), arc_from(web, corner, 3))])


def slid(web, corners):
    """What comes of a web by a slide, as it was named."""
    one = corners[0]
    other = corners[1]
    pairs = [(arc_from(web, one, 2), arc_from(web, other, 3)), (arc_from(web, one, 3), arc_from(web, other, 2))]
    return taken_out(web, corners, pairs)


def led_over(web, corner, after, last):
    """The arcs of a corner's crossing behind an over; the two other corners are told as they follow it."""
    arcs = (arc_from(web, after, 3), arc_from(web, last, 2), arc_from(web, corner, 0), arc_from(web, corner, 1))
    # They begin at the corner's place, a crossing at its place 0.
    return tuple([arcs[(place - corner[1]) % 4] for place in range(4)])


def laid_over(web, corners):
    """What comes of a web by an over, as it was named."""
    crossings = list(web[0])
    for at, corner in enumerate(corners):
        crossings[corner[0]] = led_over(web, corner, corners[(at + 1) % 3], corners[(at + 2) % 3])
    return (tuple(crossings), web[1], web[2])


def turned(web, turning):
    """The web that comes of a web by a turning, named anew; or NoTurning."""
    if not is_turning(web, turning):
        raise NoTurning("it is no turning of this web")
    if turning[0] == "curl":
        return named_anew(without_curl(web, turning[1]))
    if turning[0] == "slide":
        return named_anew(slid(web, turning[1]))
    return named_anew(laid_over(web, turning[1]))


def weight_of(turning):
    """The power of -x^3 by which a turning changes sums."""
    if turning[0] != "curl":
        return 0
    return 1 if turning[1][0][1] % 2 == 0 else -1
