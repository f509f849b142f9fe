"""Lists of twists made simpler by steps: what each step does, rows of steps, least lists and easing."""

from tanglehouse.errors import NoStep
from tanglehouse.wholes import is_whole

# The list of the fraction 1 by 0: least, though no number of it is 2 or more.
UPRIGHT_LIST = (0, 0)


def is_placed(twists, thing):
    """Whether any thing is a tuple of something and a place of the list that isn't its last one."""
    if not isinstance(thing, tuple) or len(thing) != 2:
        return False
    return is_whole(thing[1]) and 0 <= thing[1] < len(twists) - 1


def without_number(twists, at, many):
    """The list without the number at a place, its neighbours greater by many."""
    told = list(twists)
    told[at + 1] = told[at + 1] + many
    if at > 0:
        told[at - 1] = told[at - 1] + many
    told.pop(at)
    return told


def can_be_nought(twists, at):
    """Whether nought is a step of a list at a place but its last one."""
    if twists[at] != 0:
        return False
    return at > 0 or (twists[1] == 0 and len(twists) > 2)


def without_nought(twists, at):
    """The list with a nought and its neighbours made one number; at 0 without its first two numbers."""
    if at == 0:
        return twists[2:]
    return twists[:at - 1] + [twists[at - 1] + twists[at + 1]] + twists[at + 2:]


def split_number(twists, at):
    """The list with a number at a place split: a 1 behind it, it and the next one greater by 1."""
    return twists[:at] + [twists[at] + 1, 1, twists[at + 1] + 1] + twists[at + 2:]


def step(twists, step):
    """The list that comes of a list of twists by a step, and the step's weight; or NoStep."""
    if is_placed(twists, step):
        word = step[0]
        at = step[1]
        if word == "one" and twists[at] == 1:
            return (without_number(twists, at, -1), 0 if at == 0 else 1)
        if word == "less" and twists[at] == -1:
            return (without_number(twists, at, 1), 0 if at == 0 else -1)
        if word == "nought" and can_be_nought(twists, at):
            return (without_nought(twists, at), 0)
        if word == "loose" and at == 0 and twists[0] == 0:
            return ([0, 0] + twists[2:], twists[1])
        if word == "split" and twists[at] < -1:
            return (split_number(twists, at), -1)
    raise NoStep("it is no step of this list")


def led(twists, steps):
    """The list that comes of a list of twists by a row of steps, and the sum of their weights; or NoStep."""
    told = list(twists)
    weight = 0
    for one in steps:
        made = step(told, one)
        told = made[0]
        weight = weight + made[1]
    return (told, weight)


def least_list(fraction):
    """The least list whose value is a fraction."""
    top = fraction[0]
    bottom = fraction[1]
    if bottom == 0:
        return list(UPRIGHT_LIST)
    told = []
    while bottom > 0:
        # The number is the least that isn't less than top by bottom: it less that is 1 by the others' value.
        number = -(-top // bottom)
        told.append(number)
        rest = number * bottom - top
        top = bottom
        bottom = rest
    return list(reversed(told))


def word_at(twists, at):
    """The word of the step by which a list is eased at a place where a number below 2 stands."""
    number = twists[at]
    if number == 1:
        return "one"
    if number == -1:
        return "less"
    if number < -1:
        return "split"
    return "loose" if at == 0 and twists[1] != 0 else "nought"


def next_step(twists):
    """The step by which a list is eased, or None of a least list."""
    if twists == list(UPRIGHT_LIST):
        return None
    for at in range(len(twists) - 1):
        if twists[at] < 2:
            return (word_at(twists, at), at)
    return None


def eased(twists):
    """The steps by which a list of twists is eased, and the least list of its value, which comes of them."""
    told = list(twists)
    steps = []
    after = next_step(told)
    while after is not None:
        steps.append(after)
        told = step(told, after)[0]
        after = next_step(told)
    return (steps, told)
