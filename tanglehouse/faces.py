"""Darts, faces, pieces and holes: whether a web fits into the plane."""

from tanglehouse.errors import NotFlat
from tanglehouse.webs import RIM, places


def twins(web):
    """For each place the other place of its arc."""
    told = {}
    for pair in places(web).values():
        told[pair[0]] = pair[1]
        told[pair[1]] = pair[0]
    return told


def dart_next_to(web, place):
    """The dart that comes behind those whose twin is this place."""
    # The rim is seen from within, so its places go round it against those of a crossing.
    if place[0] == RIM:
        return (RIM, (place[1] + 1) % len(web[1]))
    return (place[0], (place[1] - 1) % 4)


def twin(web, dart):
    """The other place of a dart's arc."""
    return twins(web)[dart]


def behind(web, dart):
    """The dart that comes behind a dart."""
    return dart_next_to(web, twin(web, dart))


def parted(members, group_from):
    """The groups into which members fall, each as it is told from its least member on."""
    seen = {}
    groups = []
    for member in sorted(members):
        if member not in seen:
            group = group_from(member)
            for reached in group:
                seen[reached] = True
            groups.append(group)
    return groups


def face_from(web, others, dart):
    """The darts that come behind one another from a dart on, round to it."""
    face = [dart]
    after = dart_next_to(web, others[dart])
    while after != dart:
        face.append(after)
        after = dart_next_to(web, others[after])
    return face


def faces(web):
    """The faces, rising, each as the list of its darts from the least one on."""
    others = twins(web)
    return parted(others, lambda dart: face_from(web, others, dart))


def neighbours(web):
    """For each crossing's number, and for the rim where there are ends, those that its arcs lead to."""
    told = {}
    for k in range(len(web[0])):
        told[k] = []
    if web[1]:
        told[RIM] = []
    for pair in places(web).values():
        told[pair[0][0]].append(pair[1][0])
        told[pair[1][0]].append(pair[0][0])
    return told


def piece_from(beside, first):
    """The numbers, rising, that hang together with the first one."""
    found = {first: True}
    waiting = [first]
    while waiting:
        number = waiting.pop()
        for reached in beside[number]:
            if reached not in found:
                found[reached] = True
                waiting.append(reached)
    return sorted(found)


def pieces(web):
    """The pieces, rising, each as the list of its crossings' numbers, -1 for the rim."""
    beside = neighbours(web)
    return parted(beside, lambda number: piece_from(beside, number))


def holes(web):
    """By how many holes a web doesn't fit into the plane."""
    rim = 1 if web[1] else 0
    doubled = 2 * len(pieces(web)) + len(places(web)) - len(web[0]) - rim - len(faces(web))
    return doubled // 2


def check_flat(web):
    """None of a flat web; NotFlat of any other one."""
    many = holes(web)
    if many > 0:
        raise NotFlat(many)
