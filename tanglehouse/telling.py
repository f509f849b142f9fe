"""Two webs told alike, with a row of paces from the one to the other; or apart, with what parts them; or open."""

from tanglehouse.colours import colours
from tanglehouse.errors import NoMatch, TooWide
from tanglehouse.plain import plain
from tanglehouse.strands import how_strung, links, own_sums
from tanglehouse.turnings import turned, turnings

# In the order in which webs are told apart by them.
WORDS = ("strung", "links", "colours", "sums")
COLOURED_BY = (3, 5, 7)


def shelved(web, most):
    """For each form on the shelf, in order, the form and the turning from which it came, or None of the first one."""
    first = plain(web)
    told = {first: None}
    forms = [first]
    at = 0
    while at < len(forms) and len(forms) < most:
        source = forms[at]
        for turning in turnings(source):
            form = plain(turned(source, turning))
            if form not in told and len(forms) < most:
                told[form] = (source, turning)
                forms.append(form)
        at = at + 1
    return told


def shelf(web, most):
    """The first forms on the shelf of a web, at most so many."""
    return list(shelved(web, most))[:most]


def way_to(came, form):
    """The forms and the turnings, in order, by which a form on a shelf was come to from the first one."""
    told = []
    source = came[form]
    while source is not None:
        told.append(source)
        source = came[source[0]]
    return list(reversed(told))


def row_through(ones, others, form):
    """The paces on from one shelf's first form to one that stands on both, and from there back to the other's."""
    row = [("on", web, turning) for web, turning in way_to(ones, form)]
    for web, turning in reversed(way_to(others, form)):
        row.append(("back", web, turning))
    return row


def own_rows(web):
    """The own sums of a web as a list of tuples (joining, polynomial), rising; None where it is too wide."""
    try:
        told = own_sums(web)
    except TooWide:
        return None
    return sorted(told.items())


def what_it_has(web, word):
    """What a web has by one of the words that part; None where it can't be reckoned."""
    if word == "strung":
        return how_strung(web)
    if word == "links":
        return links(web)
    if word == "colours":
        return [colours(web, m) for m in COLOURED_BY]
    return own_rows(web)


def parted_by(one, other):
    """The first word by which two webs differ, with what each has, told as apart; or None."""
    for word in WORDS:
        ones = what_it_has(one, word)
        others = what_it_has(other, word)
        if ones is not None and others is not None and ones != others:
            return ("apart", word, ones, others)
    return None


def compared(one, other, most=20):
    """Whether two webs are alike, by shelves of at most so many forms, or apart, or open; or NoMatch."""
    if len(one[1]) != len(other[1]):
        raise NoMatch("they haven't as many ends")
    ones = shelved(one, most)
    others = shelved(other, most)
    for form in ones:
        if form in others:
            return ("alike", row_through(ones, others, form))
    parting = parted_by(one, other)
    if parting is not None:
        return parting
    return ("open", len(ones), len(others))
