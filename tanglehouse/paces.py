"""Rows of paces: turnings gone on and back from web to web, each of them checked."""

from tanglehouse.errors import BadPace, TangleError
from tanglehouse.plain import plain
from tanglehouse.turnings import turned, weight_of
from tanglehouse.webs import check_web

WORDS = ("on", "back")


def made_by(pace):
    """What comes of a pace's turning from the pace's web; or a refusal where that is no web or no turning of it."""
    check_web(pace[1])
    return turned(pace[1], pace[2])


def come_to(web, thing):
    """The web that a pace leads to from the one at hand; None of any thing that is no pace there."""
    if not isinstance(thing, tuple) or len(thing) != 3 or thing[0] not in WORDS:
        return None
    try:
        made = made_by(thing)
    except TangleError:
        return None
    if thing[0] == "on":
        return made if plain(thing[1]) == plain(web) else None
    return thing[1] if plain(made) == plain(web) else None


def weight_by(pace):
    """The weight of a pace: of its turning on its own, of a back less its own."""
    weight = weight_of(pace[2])
    return weight if pace[0] == "on" else -weight


def gone(web, row):
    """The web that is come to from a web by a row of paces, and the weight of the row; or BadPace."""
    here = web
    weight = 0
    for at, pace in enumerate(row):
        here = come_to(here, pace)
        if here is None:
            raise BadPace(at)
        weight = weight + weight_by(pace)
    return (here, weight)
