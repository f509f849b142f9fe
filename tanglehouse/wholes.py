"""Whole numbers: told from other things, and as they are written."""

FIGURES = "0123456789"


def is_whole(thing):
    """Whether a thing is a whole number."""
    # Python holds True and False for ints.
    return isinstance(thing, int) and not isinstance(thing, bool)


def is_written(word, most):
    """Whether a word writes a whole number from 0 on by at most so many figures."""
    # isdigit would also take figures of other scripts.
    if word == "" or len(word) > most or not all([sign in FIGURES for sign in word]):
        return False
    return word == "0" or word[0] != "0"
