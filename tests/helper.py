"""What several tests need: known webs, webs made by chance from a fixed seed, and refusals caught."""

import itertools
import math
from collections import Counter
from fractions import Fraction

from tanglehouse import parts
from tanglehouse.errors import TangleError
from tanglehouse.webs import named_anew

NOTHING = ((), (), 0)
TREFOIL = (((1, 5, 2, 4), (3, 1, 4, 6), (5, 3, 6, 2)), (), 0)
FIGURE_EIGHT = (((4, 2, 5, 1), (8, 6, 1, 5), (6, 3, 7, 4), (2, 7, 3, 8)), (), 0)
HOPF = (((4, 1, 3, 2), (2, 3, 1, 4)), (), 0)
CURL = (((0, 0, 1, 1),), (), 0)
SINGLE = (((0, 1, 2, 3),), (0, 1, 2, 3), 0)
LEVEL = ((), (0, 1, 1, 0), 0)
UPRIGHT = ((), (0, 0, 1, 1), 0)
CROSSED_ENDS = ((), (0, 1, 0, 1), 0)
TORUS = (((0, 1, 0, 1),), (), 0)
KNOWN = (NOTHING, TREFOIL, FIGURE_EIGHT, HOPF, CURL, SINGLE, LEVEL, UPRIGHT, CROSSED_ENDS, TORUS)
# The text of one strand that closes, of twelve crossings, whose fronts are too wide; its colours are those of a ring.
WIDE = ("x 0 1 2 3 x 4 5 6 7 x 8 9 10 11 x 12 5 13 0 x 14 11 15 2 x 16 3 9 8 x 16 17 18 6 x 14 19 20 13 x 21 7 22 10 "
        "x 18 4 23 20 x 15 21 12 23 x 1 22 17 19")
# The texts of webs whose shelves of nineteen and of twenty forms each don't meet, but with one form more do.
MEET_AT_20 = ("x 0 0 1 2 x 3 4 2 1 x 6 9 8 6 x 9 5 3 8 x 12 4 5 12", "x 0 0 1 2 x 2 1 3 3")
MEET_AT_21 = ("x 0 0 1 2 x 4 1 2 3 x 6 7 4 5 x 9 7 6 9 x 3 11 11 5", "x 0 0 1 1")
# A prime so large that polynomials with the same values by it are the same, but for a chance that can't be met.
PRIME = 2 ** 127 - 1
# Things of each kind that are no texts and no tuples.
OTHER_THINGS = (None, True, False, 0, 1, -1, 10 ** 60, [], [0], [(0, 1)], {}, {0: 1}, {"x": "1"})


def refusal(function, *given):
    """The refusal that a call ends with, or None."""
    try:
        function(*given)
    except TangleError as error:
        return error
    return None


def refused(function, *given):
    """The class of a call's refusal and its fields, or None."""
    error = refusal(function, *given)
    if error is None:
        return None
    return (type(error), vars(error))


def chance_web(chance, crossings, ends, rings, names=10 ** 9):
    """A web whose arcs join places by chance (so most aren't flat); 4 * crossings + ends is even."""
    many = 4 * crossings + ends
    arcs = chance.sample(range(names), many // 2) * 2
    chance.shuffle(arcs)
    rows = tuple(tuple(arcs[4 * k:4 * k + 4]) for k in range(crossings))
    return (rows, tuple(arcs[4 * crossings:]), rings)


def some_webs(chance, many):
    """The known webs and webs of all small sizes by chance."""
    told = list(KNOWN)
    for _ in range(many):
        ends = 2 * chance.randrange(5)
        told.append(chance_web(chance, chance.randrange(9), ends, chance.choice((0, 0, 1, 20))))
    return told


def flat_web(chance, steps, shut):
    """A web laid within its rim step by step: an arc between neighbouring ends, or a crossing over two."""
    crossings, ends, fresh = [], [], 0
    for _ in range(steps):
        place = chance.randrange(len(ends) + 1)
        ends = ends[place:] + ends[:place]
        if len(ends) < 2 or (len(ends) < 8 and chance.randrange(3) == 0):
            ends = [fresh, fresh] + ends
            fresh += 1
        else:
            # From its lower left place on, leftwards: the old ends are met in the order against theirs.
            row = [ends[1], ends[0], fresh, fresh + 1]
            turn = chance.randrange(4)
            crossings.append(row[turn:] + row[:turn])
            ends = [fresh, fresh + 1] + ends[2:]
            fresh += 2
    rings = 0
    while shut and ends:
        gone, kept = ends[0], ends[1]
        if gone == kept:
            rings += 1
        crossings = [[kept if arc == gone else arc for arc in row] for row in crossings]
        ends = [kept if arc == gone else arc for arc in ends[2:]]
    return (tuple(tuple(row) for row in crossings), tuple(ends), rings)


def narrow_web(chance, crossings, width):
    """A web whose crossings come one by one, each at arcs that are open: never more than width, the last are ends."""
    rows, ends, fresh = [], [], 0
    for _ in range(crossings):
        chance.shuffle(ends)
        # The fewest open arcs that may be taken, that with the new ones there are no more than width; or some more.
        fewest = max(0, (len(ends) + 5 - width) // 2)
        many = chance.choice((fewest, fewest, fewest, chance.randint(fewest, 4)))
        row = [ends.pop() for _ in range(min(many, len(ends)))]
        while len(row) < 4:
            if len(row) < 3 and chance.randrange(8) == 0:
                row += [fresh, fresh]
            else:
                row.append(fresh)
                ends.append(fresh)
            fresh += 1
        chance.shuffle(row)
        rows.append(tuple(row))
    return (tuple(rows), tuple(ends), 0)


def twisted_row(many):
    """So many crossings beside one another, each as in SINGLE, the next one's left arcs the last one's right ones."""
    rows = tuple((2 * k, 2 * k + 1, 2 * k + 3, 2 * k + 2) for k in range(many))
    return (rows, (0, 1, 2 * many + 1, 2 * many), 0)


def walked(web, ways):
    """The joining and the rings with the crossings opened, by walking from place to place; by 2 straight through."""
    there = {}
    for k, row in enumerate(web[0]):
        there.update({(k, j): arc for j, arc in enumerate(row)})
    there.update({(-1, j): arc for j, arc in enumerate(web[1])})
    across = [{0: 1, 1: 0, 2: 3, 3: 2}, {0: 3, 3: 0, 1: 2, 2: 1}, {0: 2, 2: 0, 1: 3, 3: 1}]
    left, joining, rings = set(there), [], web[2]
    while left:
        start = here = min(left)
        while True:
            left.discard(here)
            here = [place for place in there if place != here and there[place] == there[here]][0]
            left.discard(here)
            if here[0] == -1:
                joining.append((start[1], here[1]))
                break
            here = (here[0], across[ways[here[0]]][here[1]])
            if here == start:
                rings += 1
                break
    return tuple(sorted(joining)), rings


def sums_again(web):
    """The sums of a web over all ways, by walking, each as a dict of powers."""
    told = {}
    for ways in itertools.product((0, 1), repeat=len(web[0])):
        joining, rings = walked(web, ways)
        numbers = told.setdefault(joining, Counter())
        for minus in range(rings + 1):
            power = len(ways) - 2 * sum(ways) + 2 * rings - 4 * minus
            numbers[power] += (-1) ** rings * math.comb(rings, minus)
    return told


def as_told(again):
    """What sums_again tells, as sums are to be told."""
    rows = {joining: tuple(sorted((power, number) for power, number in numbers.items() if number))
            for joining, numbers in again.items()}
    return {joining: row for joining, row in rows.items() if row}


def value_at(one, x):
    """A polynomial's value at x by PRIME."""
    return sum(number * pow(x, power, PRIME) for power, number in one) % PRIME


def together(webs, seams, ends):
    """Webs with pairs of ends (web's number, end's number) joined and ends left, by walking; named anew."""
    there, rows = {}, []
    for w, web in enumerate(webs):
        stands = {}
        for k, row in enumerate(web[0]):
            rows.append([(w, k, j) for j in range(4)])
            for j, arc in enumerate(row):
                stands.setdefault(arc, []).append((w, k, j))
        for j, arc in enumerate(web[1]):
            stands.setdefault(arc, []).append((w, -1, j))
        for one, other in stands.values():
            there.update({one: other, other: one})
    across = {}
    for one, other in seams:
        across.update({(one[0], -1, one[1]): (other[0], -1, other[1]), (other[0], -1, other[1]): (one[0], -1, one[1])})
    rows.append([(w, -1, j) for w, j in ends])
    names, passed = {}, set()
    for place in [place for row in rows for place in row]:
        if place not in names:
            here = there[place]
            while here in across:
                passed.update((here, across[here]))
                here = there[across[here]]
            names[place] = names[here] = len(names) // 2
    rings = sum(web[2] for web in webs)
    for place in across:
        if place not in passed:
            rings += 1
            while place not in passed:
                passed.update((place, across[place]))
                place = there[across[place]]
    rows = [tuple(names[place] for place in row) for row in rows]
    return (tuple(rows[:-1]), rows[-1], rings)


def shut_again(web, place):
    """A web shut at an end, by walking."""
    many = len(web[1])
    after = (place + 1) % many
    return together([web], [((0, place), (0, after))], [(0, j) for j in range(many) if j not in (place, after)])


def glued_again(one, other, many):
    """Two webs glued by many ends, by walking."""
    kept = len(one[1]) - many
    seams = [((0, len(one[1]) - 1 - k), (1, k)) for k in range(many)]
    return together([one, other], seams, [(0, j) for j in range(kept)] + [(1, j) for j in range(many, len(other[1]))])


def above_again(one, other):
    """A tangle above another one, by walking."""
    return together([one, other], [((0, 1), (1, 0)), ((0, 2), (1, 3))], [(0, 0), (1, 1), (1, 2), (0, 3)])


def quarter_again(one):
    """A tangle turned leftwards by a quarter, by walking: its upper right end is its upper left one then."""
    return together([one], [], [(0, 3), (0, 0), (0, 1), (0, 2)])


def chance_tangle(chance, crossings):
    """A tangle whose arcs join places by chance, or a flat one."""
    if chance.randrange(3) == 0:
        return chance_web(chance, crossings, 4, chance.choice((0, 1, 3)))
    while True:
        web = flat_web(chance, chance.randint(2, crossings + 4), False)
        if len(web[1]) == 4:
            return web


def part_of(tree):
    """The part that a tree tells: a tuple of its class's name and of the trees of those that it is made of."""
    return getattr(parts, tree[0])(*[part_of(one) for one in tree[1:]])


def trees(depth):
    """All parts, told as trees, in which none stands within more than so many others."""
    told = [("Level",), ("Upright",), ("Single",)]
    if depth:
        within = trees(depth - 1)
        told += [(name, one) for name in ("Turned", "Mirrored") for one in within]
        told += [(name, one, other) for name in ("Beside", "Above") for one in within for other in within]
    return told


def chance_tree(chance, depth, crossings):
    """A part, told as a tree, of so many crossings, in which none stands within more than depth others."""
    if depth == 0 or (crossings < 2 and chance.randrange(3) == 0):
        return ("Single",) if crossings else (chance.choice(("Level", "Upright")),)
    most = 2 ** (depth - 1)
    if crossings <= most and chance.randrange(3) == 0:
        return (chance.choice(("Turned", "Mirrored")), chance_tree(chance, depth - 1, crossings))
    first = chance.randint(max(0, crossings - most), min(crossings, most))
    return (chance.choice(("Beside", "Above")), chance_tree(chance, depth - 1, first),
            chance_tree(chance, depth - 1, crossings - first))


def chance_trees(chance, many, crossings):
    """So many parts, told as trees, of at most so many crossings, none within more than eight others."""
    depths = [chance.randint(3, 8) for _ in range(many)]
    return [chance_tree(chance, depth, chance.randint(0, min(crossings, 2 ** depth))) for depth in depths]


def value_again(twists):
    """The value of a list, by Python's own fractions, None for 1 by 0."""
    told = Fraction(twists[0])
    for number in twists[1:]:
        if told is None:
            told = Fraction(number)
        else:
            told = None if told == 0 else number - 1 / told
    return (1, 0) if told is None else (told.numerator, told.denominator)


def chance_list(chance, length, many):
    """A list of so many numbers that come to so many without their signs, with noughts among them."""
    told = [0] * length
    for _ in range(many):
        told[chance.randrange(length)] += 1
    return [chance.choice((-1, 1)) * number for number in told]


def small_lists(most, length):
    """All lists of up to length numbers, none beyond most without its sign."""
    for many in range(1, length + 1):
        yield from (list(row) for row in itertools.product(range(-most, most + 1), repeat=many))


def chance_lists(chance, many):
    """Lists to the bounds: of up to forty numbers that come to at most forty."""
    told = [chance_list(chance, chance.randint(1, 40), chance.randint(0, 40)) for _ in range(many)]
    told += [chance_list(chance, chance.randint(1, 8), chance.randint(0, 40)) for _ in range(many)]
    told += [[40], [-40], [20, -20], [1] * 40, [-1] * 40, [1, -1] * 20, [0] * 40]
    return told + [[0] * 39 + [40], [-40] + [0] * 39]


def times_curls(one, many):
    """A polynomial times -x^3 to a power of any sign."""
    return tuple((power + 3 * many, (-1) ** (many % 2) * number) for power, number in one)


def sums_times_curls(told, many):
    """Sums, each times -x^3 to a power of any sign."""
    return {joining: times_curls(one, many) for joining, one in told.items()}


def arcs_of(web):
    """The arcs of a web, rising."""
    return sorted({arc for row in web[0] + (web[1],) for arc in row})


def pairings(places):
    """All ways to pair places."""
    if not places:
        yield []
    for k in range(1, len(places)):
        yield from ([(places[0], places[k])] + rest for rest in pairings(places[1:k] + places[k + 1:]))


def all_places(crossings, ends):
    return [(k, j) for k in range(crossings) for j in range(4)] + [(-1, j) for j in range(ends)]


def web_of(pairs, crossings, ends, rings=0):
    """The web whose arcs join these pairs of places, each called by its pair's number."""
    there = {place: arc for arc, pair in enumerate(pairs) for place in pair}
    rows = tuple(tuple(there[(k, j)] for j in range(4)) for k in range(crossings))
    return (rows, tuple(there[(-1, j)] for j in range(ends)), rings)


def every_web(crossings, ends):
    """All webs of so many crossings and ends, but for names."""
    return (web_of(pairs, crossings, ends) for pairs in pairings(all_places(crossings, ends)))


def planted(chance, word, corners, crossings, ends):
    """A web with a turning at these corners, its other places joined by chance; and the turning."""
    pairs = [((k, i), (l, (j + 1) % 4)) for (k, i), (l, j) in zip(corners, corners[1:] + corners[:1])]
    left = [place for place in all_places(crossings, ends) if place not in [place for pair in pairs for place in pair]]
    chance.shuffle(left)
    pairs += list(zip(left[::2], left[1::2]))
    chance.shuffle(pairs)
    first = corners.index(min(corners))
    web = web_of(pairs, crossings, ends, chance.choice((0, 0, 3)))
    return web, (word, tuple(corners[first:] + corners[:first]))


def turnable(chance, many, crossings, ends):
    """Webs with a turning each, so many for each word and each row of places that it may have; with the turning."""
    for word, size in (("curl", 1), ("slide", 2), ("over", 3)):
        for row in itertools.product(range(4), repeat=size):
            if size == 1 or 0 < sum(i % 2 for i in row) < size:
                for _ in range(many):
                    most = chance.randint(size, crossings)
                    numbers = chance.sample(range(most), size)
                    yield planted(chance, word, list(zip(numbers, row)), most, 2 * chance.randint(0, ends // 2))


def erased_again(web, gone):
    """A web without some crossings, by walking: their strands go straight on."""
    many = len(web[1])
    rows = tuple(row for k, row in enumerate(web[0]) if k not in gone)
    cut = (rows, web[1] + tuple(arc for k in gone for arc in web[0][k]), web[2])
    seams = [((0, many + 4 * k + j), (0, many + 4 * k + j + 2)) for k in range(len(gone)) for j in (0, 1)]
    return together([cut], seams, [(0, j) for j in range(many)])


def over_again(web, corners):
    """A web by an over, by walking: each of three strands passes its two crossings in the other order."""
    gone = [k for k, _ in corners]
    others = [k for k in range(len(web[0])) if k not in gone]
    many = len(web[1])
    outer = [(k, (i + more) % 4) for k, i in corners for more in (2, 3)]
    cut = (tuple(web[0][k] for k in others), web[1] + tuple(web[0][k][j] for k, j in outer), web[2])
    rows = {k: [None] * 4 for k in gone}
    for number, ((k, i), (l, j)) in enumerate(zip(corners, corners[1:] + corners[:1])):
        # From the place behind k's to l, on to k in the same direction as ever, and out where l led.
        rows[l][(j + 1) % 4] = outer.index((k, (i + 2) % 4))
        rows[l][(j + 3) % 4] = rows[k][(i + 2) % 4] = 6 + number
        rows[k][i] = outer.index((l, (j + 3) % 4))
    three = (tuple(tuple(rows[k]) for k in gone), tuple(range(6)), 0)
    made = together([cut, three], [((0, many + j), (1, j)) for j in range(6)], [(0, j) for j in range(many)])
    rows = dict(zip(others + gone, made[0]))
    return named_anew((tuple(rows[k] for k in sorted(rows)), made[1], made[2]))


def turned_again(web, turning):
    """A web by a turning, by walking."""
    word, corners = turning
    return over_again(web, corners) if word == "over" else erased_again(web, [k for k, _ in corners])


def turnings_again(web):
    """The turnings of a web, by looking for arcs from corner to corner."""
    corners = [(k, i) for k in range(len(web[0])) for i in range(4)]
    leads = lambda one, other: web[0][one[0]][one[1]] == web[0][other[0]][(other[1] + 1) % 4]
    told = [("curl", (one,)) for one in corners if leads(one, one)]
    for one, other in itertools.product(corners, repeat=2):
        if one[0] < other[0] and leads(one, other):
            if leads(other, one) and one[1] % 2 != other[1] % 2:
                told.append(("slide", (one, other)))
            for third in corners:
                if one[0] < third[0] != other[0] and leads(other, third) and leads(third, one):
                    if len({one[1] % 2, other[1] % 2, third[1] % 2}) == 2:
                        told.append(("over", (one, other, third)))
    return sorted(told)


def reworded(chance, web):
    """A web by other names of its arcs, its crossings in another order, some told from the third place on."""
    names = dict(zip(arcs_of(web), chance.sample(range(10 ** 9), len(arcs_of(web)))))
    rows = [tuple(names[arc] for arc in row) for row in web[0]]
    rows = [row[2:] + row[:2] if chance.randrange(2) else row for row in rows]
    chance.shuffle(rows)
    return (tuple(rows), tuple(names[arc] for arc in web[1]), web[2])


def least_wording(web):
    """The least web, named anew, by all orders of the crossings, each told from its first and its third place on."""
    told = []
    for rows in itertools.permutations(web[0]):
        for turns in itertools.product((0, 2), repeat=len(rows)):
            again = tuple(row[turn:] + row[:turn] for row, turn in zip(rows, turns))
            told.append(named_anew((again, web[1], web[2])))
    return min(told)


def is_naming_again(one, other, names):
    """Whether a dict is a naming, by taking the other's crossings away one by one."""
    if set(names) != set(arcs_of(one)) or not set(names.values()) <= set(arcs_of(other)):
        return False
    if len(set(names.values())) < len(names) or one[2] != other[2]:
        return False
    left = list(other[0])
    for row in one[0]:
        a, b, c, d = [names[arc] for arc in row]
        for again in ((a, b, c, d), (c, d, a, b)):
            if again in left:
                left.remove(again)
                break
        else:
            return False
    return left == [] and [names[arc] for arc in one[1]] == list(other[1])


def rows_again(web, start):
    """The rows of places, from the first row on, to which a walk comes; places of arcs are looked for one by one."""
    there = {(k, j): arc for k, row in enumerate(web[0] + (web[1],)) for j, arc in enumerate(row)}
    rows = [start]
    for row in rows:
        for place in row:
            (k, j), = [other for other in there if other != place and there[other] == there[place]]
            if k not in [row[0][0] for row in rows]:
                first = {0: 0, 1: 0, 2: 2, 3: 2}[j]
                rows.append([(k, (first + more) % 4) for more in range(4)])
    return [[there[place] for place in row] for row in rows]


def told_again(web, gate):
    """What the walk from a gate tells."""
    rows, names = rows_again(web, [(gate[0], (gate[1] + more) % 4) for more in range(4)]), {}
    return tuple(tuple(names.setdefault(arc, len(names)) for arc in row) for row in rows)


def plain_again(web):
    """The plain form of a web."""
    rim = len(web[0])
    rows = [tuple(row) for row in rows_again(web, [(rim, j) for j in range(len(web[1]))])[1:]] if web[1] else []
    left = [k for k in range(rim) if not set(web[0][k]) & {arc for row in rows for arc in row}]
    closed = []
    while left:
        piece = {arc for row in rows_again(web, [(left[0], j) for j in range(4)]) for arc in row}
        numbers = [k for k in left if web[0][k][0] in piece]
        closed.append(min(told_again(web, (k, place)) for k in numbers for place in (0, 2)))
        left = [k for k in left if k not in numbers]
    for number, told in enumerate(sorted(closed)):
        rows += [tuple((number, arc) for arc in row) for row in told]
    names = {}
    anew = [tuple(names.setdefault(arc, len(names)) for arc in row) for row in rows + [web[1]]]
    return (tuple(anew[:-1]), anew[-1], web[2])


def with_curl(chance, web):
    """A web with an arc of it, or a ring, curled; and the turning that takes the curl away."""
    arcs, fresh = arcs_of(web), max(arcs_of(web), default=0) + 1
    i, k = chance.randrange(4), len(web[0])
    row = [None] * 4
    row[i] = row[(i + 1) % 4] = fresh
    if web[2] and (not arcs or chance.randrange(4) == 0):
        row[(i + 2) % 4] = row[(i + 3) % 4] = fresh + 1
        return (web[0] + (tuple(row),), web[1], web[2] - 1), ("curl", ((k, i),))
    arc = chance.choice(arcs)
    row[(i + 2) % 4], row[(i + 3) % 4] = chance.sample((arc, fresh + 1), 2)
    rows = parted_at(web, arc, fresh + 1)
    return (rows[:-1] + (tuple(row),), rows[-1], web[2]), ("curl", ((k, i),))


def parted_at(web, arc, fresh):
    """The crossings of a web and its ends behind them, an arc called otherwise at its first place."""
    rows = [list(row) for row in web[0] + (web[1],)]
    row = next(row for row in rows if arc in row)
    row[row.index(arc)] = fresh
    return tuple(tuple(row) for row in rows)


def with_slide(chance, web):
    """A web with one of two arcs of it laid over the other; and the slide that takes it away."""
    fresh, k = max(arcs_of(web)) + 1, len(web[0])
    one, other = chance.sample(arcs_of(web), 2)
    rows = parted_at(web, one, fresh)
    rows = parted_at((rows[:-1], rows[-1], 0), other, fresh + 1)
    i = chance.randrange(4)
    j = (i + chance.choice((1, 3))) % 4
    ends, others = chance.sample((one, fresh), 2), chance.sample((other, fresh + 1), 2)
    first, second = [None] * 4, [None] * 4
    first[i] = second[(j + 1) % 4] = fresh + 2
    second[j] = first[(i + 1) % 4] = fresh + 3
    first[(i + 2) % 4], second[(j + 3) % 4] = ends
    first[(i + 3) % 4], second[(j + 2) % 4] = others
    made = (rows[:-1] + (tuple(first), tuple(second)), rows[-1], web[2])
    return made, ("slide", ((k, i), (k + 1, j)))


def weight_again(turning):
    """The weight of a turning, by its corner's place."""
    return {0: 1, 1: -1, 2: 1, 3: -1}[turning[1][0][1]] if turning[0] == "curl" else 0


def chance_row(chance, web, many):
    """A row of so many paces from a web, its webs by other names; the web that it comes to; and its weight."""
    row, weight = [], 0
    for _ in range(many):
        near = reworded(chance, web)
        known = turnings_again(near)
        if known and (chance.randrange(2) or len(web[0]) > 9):
            turning = chance.choice(known)
            row.append(("on", near, turning))
            web = turned_again(near, turning)
            weight += weight_again(turning)
        elif arcs_of(near) or near[2]:
            with_more = with_slide if len(arcs_of(near)) > 1 and chance.randrange(2) else with_curl
            web, turning = with_more(chance, near)
            row.append(("back", web, turning))
            weight -= weight_again(turning)
    return row, web, weight


def shelf_again(web, most):
    """The first forms on the shelf of a web."""
    forms = [plain_again(web)]
    for form in forms:
        for turning in turnings_again(form):
            after = plain_again(turned_again(form, turning))
            if after not in forms:
                forms.append(after)
        if len(forms) >= most:
            break
    return forms[:most]
