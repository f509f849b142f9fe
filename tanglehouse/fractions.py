"""Fractions of tangles: pairs of parts, polynomials at x^4 = -1, and lists of twists."""

from tanglehouse.gluing import beside, quarter
from tanglehouse.parts import Above, Beside, Level, Mirrored, Single, Turned, Upright
from tanglehouse.polynomials import lifted, minus

ONE = ((0, 1),)
NOUGHT = ()


def beside_pair(one, other):
    """The pair of a part beside another one, of their pairs."""
    return (one[0] * other[1] + one[1] * other[0], one[1] * other[1], one[2] + other[2])


def above_pair(one, other):
    """The pair of a part above another one, of their pairs."""
    return (one[0] * other[0], one[1] * other[0] + one[0] * other[1], one[2] + other[2] + 2)


def pair(part):
    """The tuple (p, q, m) of a part: p by q is its fraction, m the power of x in its sums at x^4 = -1."""
    if isinstance(part, Level):
        return (0, 1, 0)
    if isinstance(part, Upright):
        return (1, 0, -2)
    if isinstance(part, Single):
        return (1, 1, -1)
    one = pair(part.one)
    if isinstance(part, Beside):
        return beside_pair(one, pair(part.other))
    if isinstance(part, Above):
        return above_pair(one, pair(part.other))
    if isinstance(part, Turned):
        return (-one[1], one[0], one[2] + 2)
    return (-one[0], one[1], -one[2])


def taken(polynomial):
    """The numbers of x^0 to x^3 that a polynomial leaves at x^4 = -1."""
    told = [0, 0, 0, 0]
    for power, number in polynomial:
        sign = 1 if power // 4 % 2 == 0 else -1
        told[power % 4] = told[power % 4] + sign * number
    return told


def value(twists):
    """The fraction of a list of twists."""
    # Ahead of the first number stands 1 by 0: a number less 1 by it is that number.
    told = (1, 0)
    for number in twists:
        told = (number * told[0] - told[1], told[0])
        # The sign goes to the top; and of 0 by 1 there comes 1 by 0, not -1 by 0.
        if told[1] <= 0:
            told = (-told[0], -told[1])
    return told


def followed(twists, start, turned, twisted_once):
    """What comes of a start by a list of twists, turned between two numbers, by each number twisted so often."""
    made = start
    for at, number in enumerate(twists):
        if at > 0:
            made = turned(made)
        for k in range(abs(number)):
            made = twisted_once(made, 1 if number > 0 else -1)
    return made


def half_twisted(web, sign):
    """The tangle with a half twist of this sign at its right."""
    if sign == 1:
        return beside(web, Single().web())
    return beside(web, Mirrored(Single()).web())


def twisted(twists):
    """The tangle of a list of twists."""
    return followed(twists, Level().web(), quarter, half_twisted)


def exchanged(told):
    """The sums (level, upright) of a tangle that is turned."""
    return (told[1], told[0])


def half_twisted_sums(told, sign):
    """The sums (level, upright) of a tangle with a half twist of this sign at its right."""
    upright = minus(lifted(told[0], sign), lifted(told[1], 3 * sign))
    return (lifted(told[0], -sign), upright)


def twisted_sums(twists):
    """The sums (level, upright) of the tangle of a list of twists."""
    return followed(twists, (ONE, NOUGHT), exchanged, half_twisted_sums)
