"""The patterns: what fits at a place of a row, and how many signs it eats there."""


class Pattern:
    """A bare pattern fits nowhere and so never eats; those under it tell where they do."""

    def eaten(self, row, at):
        """How many signs are eaten at a place of a row (0 to its length), or None where it does not fit."""
        return None

    def eats(self):
        """Whether it ever eats a sign."""
        return False


class Word(Pattern):
    """Fits where the row goes on with a text of one sign at least, and eats it."""

    def __init__(self, text):
        self.wanted = text

    def eaten(self, row, at):
        return len(self.wanted) if row.startswith(self.wanted, at) else None

    def eats(self):
        return True


class One(Pattern):
    """Fits where the next sign is one of some signs, and eats it."""

    def __init__(self, signs):
        self.signs = signs

    def eaten(self, row, at):
        return 1 if at < len(row) and row[at] in self.signs else None

    def eats(self):
        return True


class Without(Pattern):
    """Fits where there is a next sign that is none of some signs, and eats it."""

    def __init__(self, signs):
        self.signs = signs

    def eaten(self, row, at):
        return 1 if at < len(row) and row[at] not in self.signs else None

    def eats(self):
        return True


class Many(Pattern):
    """Fits where the next sign is one of some signs, and eats it and all of them straight behind it."""

    def __init__(self, signs):
        self.signs = signs

    def eaten(self, row, at):
        end = at
        while end < len(row) and row[end] in self.signs:
            end += 1
        return end - at if end > at else None

    def eats(self):
        return True


class Any(Pattern):
    """Fits where there is a next sign, and eats it."""

    def eaten(self, row, at):
        return 1 if at < len(row) else None

    def eats(self):
        return True


class Still(Pattern):
    """Fits where there is a next sign, and eats nothing."""

    def eaten(self, row, at):
        return 0 if at < len(row) else None


class End(Pattern):
    """Fits at the row's end, and eats nothing."""

    def eaten(self, row, at):
        return 0 if at == len(row) else None
