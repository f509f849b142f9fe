"""The refusals: one class each, all straight under TangleError."""


class TangleError(ValueError):
    """Any refusal."""


class NoWeb(TangleError):
    """A thing isn't made as a web is."""


class Odd(TangleError):
    """An arc doesn't stand at two places; arc is the least such."""

    def __init__(self, arc):
        # The arc isn't written out: Python refuses to write numbers of some thousand figures.
        TangleError.__init__(self, "an arc doesn't stand at just two places")
        self.arc = arc


class NoText(TangleError):
    """A text can't be read; at is the number of the first word that can't stand there."""

    def __init__(self, at):
        TangleError.__init__(self, f"it can't be read from word {at} on")
        self.at = at


class NotFlat(TangleError):
    """A web doesn't fit into the plane; holes is by how many it doesn't."""

    def __init__(self, holes):
        TangleError.__init__(self, f"it has {holes} holes")
        self.holes = holes


class TooMany(TangleError):
    """A web has too many crossings to be reckoned way by way."""


class TooWide(TangleError):
    """A front has too many arcs; crossing is the one behind which it is told."""

    def __init__(self, crossing):
        TangleError.__init__(self, f"the front behind crossing {crossing} is too wide")
        self.crossing = crossing


class NoStep(TangleError):
    """A thing is no step of a list of twists."""


class NoTurning(TangleError):
    """A thing is no turning of a web."""


class BadPace(TangleError):
    """A row of paces can't be gone through; at is the place of the first bad pace."""

    def __init__(self, at):
        TangleError.__init__(self, f"pace {at} can't be gone")
        self.at = at


class NoMatch(TangleError):
    """Two webs haven't as many ends."""


class NoName(TangleError):
    """No web stands by a name; name is it."""

    def __init__(self, name):
        TangleError.__init__(self, f"no web stands by the name {name}")
        self.name = name


class NoRow(TangleError):
    """A row is none of those that a desk takes."""
