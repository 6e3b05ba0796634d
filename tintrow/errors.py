"""The refusals of the program."""


class TintError(ValueError):
    """Any refusal."""


class NoRules(TintError):
    """A text that tells no rules; row and word, both from 0, are the place of its first fault."""

    def __init__(self, row, word):
        self.row = row
        self.word = word


class Rings(TintError):
    """Rules that would go on without end: a ring of modes' names, and a sign, or None for a row's end."""

    def __init__(self, ring, sign):
        # Whoever raises this may change the list later; neither the field nor the error's words hang on it.
        TintError.__init__(self, tuple(ring), sign)
        self.ring = list(ring)
        self.sign = sign


class NoPlace(TintError):
    """A row or a place that there is not."""


class Nothing(TintError):
    """Nothing to undo, or to do once more."""


class NoMark(TintError):
    """A mark's name that is none, or a mark that is not set."""


class NoLine(TintError):
    """A row that a desk does not know."""
