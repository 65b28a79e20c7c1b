"""The errors that the package raises, each with what was wrong."""


class InvalidPlan(ValueError):
    """A plan is not as described: `place` is the number of its first wrong thing, or None."""

    def __init__(self, place):
        ValueError.__init__(self, "not a plan of at most 12 pairs of entries")
        self.place = place


class InvalidPlace(ValueError):
    """There is no such place: `place` is what was passed."""

    def __init__(self, place):
        ValueError.__init__(self, "not a place")
        self.place = place


class InvalidValues(ValueError):
    """A list is not as described: `index` is the number of its first wrong thing, or None."""

    def __init__(self, index):
        ValueError.__init__(self, "not a list of at most 60 whole numbers")
        self.index = index


class InvalidPasses(ValueError):
    """A number of passes is not as described: `passes` is what was passed."""

    def __init__(self, passes):
        ValueError.__init__(self, "not a number of passes from 0 to 60")
        self.passes = passes


class InvalidSteps(ValueError):
    """A row of steps is not as described: `steps` is what was passed."""

    def __init__(self, steps):
        ValueError.__init__(self, "not a row of at most 60 steps l and r")
        self.steps = steps


class InvalidNumber(ValueError):
    """A number is not as described: `number` is what was passed."""

    def __init__(self, number):
        ValueError.__init__(self, "not a whole number within the limits")
        self.number = number


class InvalidText(ValueError):
    """A text is not as described: `line` is the number of its first wrong line, or None."""

    def __init__(self, line):
        ValueError.__init__(self, "not the text of what was asked for")
        self.line = line


class TooMany(ValueError):
    """A result is too large: `count` tells how large it would be."""

    def __init__(self, count):
        ValueError.__init__(self, "the result is too large")
        self.count = count


class NotOnePlan(ValueError):
    """Two passes one after the other are not always one pass of some plan."""


class NoPart(LookupError):
    """No waiting part begins at a place: `place` is what was passed."""

    def __init__(self, place):
        LookupError.__init__(self, "no waiting part begins there")
        self.place = place


class NothingToUndo(LookupError):
    """There is no split that could be taken back."""
