"""Colourings: numbers for arcs that fit together at each crossing by m, and how many such there are."""

from tanglehouse.webs import places


def fits(crossing, m, colouring):
    """Whether the numbers of a crossing's arcs fit together by m."""
    above = colouring[crossing[1]]
    if above != colouring[crossing[3]]:
        return False
    return (colouring[crossing[0]] + colouring[crossing[2]] - 2 * above) % m == 0


def is_colouring(web, m, colouring):
    """Whether a dict from whole numbers to whole numbers is a colouring of a web by m."""
    if sorted(colouring) != sorted(places(web)):
        return False
    if not all([0 <= number < m for number in colouring.values()]):
        return False
    return all([fits(crossing, m, colouring) for crossing in web[0]])


def equation(columns, terms, m):
    """The row of numbers by m, one for each arc, of an equation that is told by terms (arc, number)."""
    row = [0 for arc in columns]
    for arc, number in terms:
        # An arc may stand twice at a crossing.
        row[columns[arc]] = (row[columns[arc]] + number) % m
    return row


def equations(web, m):
    """The rows of numbers by which a colouring's numbers come to nought by m."""
    columns = {}
    for arc in places(web):
        columns[arc] = len(columns)
    rows = []
    for a, b, c, d in web[0]:
        rows.append(equation(columns, ((a, 1), (c, 1), (b, -2)), m))
        rows.append(equation(columns, ((b, 1), (d, -1)), m))
    return rows


def least_entry(rows):
    """The least number above 0 in rows, which aren't all nought, as a tuple of it, its row's place and its column."""
    entries = []
    for at, row in enumerate(rows):
        entries.extend([(number, at, column) for column, number in enumerate(row) if number > 0])
    return min(entries)


def less_often(row, other, often, m):
    """A row of numbers by m, less another one so often."""
    if often == 0:
        return row
    return [(number - often * less) % m for number, less in zip(row, other)]


def cleared_by(rows, entry, m):
    """The other rows, less the entry's row so often that what they have in its column is less than it."""
    own = rows[entry[1]]
    told = []
    for at, row in enumerate(rows):
        if at != entry[1]:
            told.append(less_often(row, own, row[entry[2]] // entry[0], m))
    return told


def rest_of(row, entry):
    """The entry's row with each other number less the entry so often that it is less than it."""
    return [number if column == entry[2] else number % entry[0] for column, number in enumerate(row)]


def factors(rows, m):
    """Numbers, one for each unknown that isn't free, of which each times its unknown is to be nought by m."""
    told = []
    left = [row for row in rows if any(row)]
    while left:
        entry = least_entry(left)
        own = left[entry[1]]
        others = cleared_by(left, entry, m)
        # Unknowns are changed for others by the entry's own row only once nothing else hangs on its column.
        if not any([row[entry[2]] for row in others]):
            own = rest_of(own, entry)
            if sum(own) == entry[0]:
                told.append(entry[0])
                own = []
        left = [row for row in others + [own] if any(row)]
    return told


def solutions(factor, m):
    """How many numbers from 0 to m - 1 come to nought by m, so many times."""
    return len([number for number in range(m) if factor * number % m == 0])


def colours(web, m):
    """How many colourings by m a web has, times m for each ring."""
    found = factors(equations(web, m), m)
    many = 1
    for factor in found:
        many = many * solutions(factor, m)
    for k in range(len(places(web)) - len(found) + web[2]):
        many = many * m
    return many
