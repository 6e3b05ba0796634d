"""A scribe: a text with a hand's marks, whose puttings and takings can be undone and done once more."""

from tintrow.errors import NoMark
from tintrow.errors import Nothing
from tintrow.folds import folds
from tintrow.rules import is_name
from tintrow.tinted import Tinted


class Deed:
    """A putting or taking: the rows taken out from a row on, those given in their place, and the marks then set.

    The marks are those ahead of its first doing and those ahead of its last undoing, None till it is undone.
    """

    def __init__(self, row, taken, given, places):
        self.row = row
        self.taken = taken
        self.given = given
        self.places_ahead = places
        self.places_behind = None


class Scribe:
    """A tinted text with its marks, the deeds that can be undone, and those that can be done once more.

    The dict of the marks' places is never changed, only put aside for another one: deeds keep it, too.
    """

    def __init__(self, rules, rows):
        self.tinted = Tinted(rules, rows)
        self.places = {}
        self.done = []
        self.undone = []

    def text(self):
        """The Tinted, to be only read."""
        return self.tinted

    def folds(self):
        """The list of the text's folds."""
        return folds([self.tinted.marks(row) for row in range(len(self.tinted.rows()))])

    def marks(self):
        """A dict from the marks' names, rising, to their places."""
        return dict([(name, self.places[name]) for name in sorted(self.places)])

    def set_mark(self, name, row, at):
        """Sets a mark at a place, or moves it there."""
        if not is_name(name):
            raise NoMark(f"{name!r} is no name")
        self.tinted.ask_place(row, at)
        places = dict(self.places)
        places[name] = (row, at)
        self.places = places

    def drop_mark(self, name):
        """Takes a mark away."""
        if name not in self.places:
            raise NoMark(f"no mark {name!r} is set")
        places = dict(self.places)
        places.pop(name)
        self.places = places

    def put(self, row, at, text):
        """Puts a text, perhaps with line ends, in at a place of a row; tells how many rows were gone over."""
        ahead = self.tinted.rows()
        count = self.tinted.put(row, at, text)
        self.keep(row, ahead[row:row + 1], text.count("\n") + 1)
        self.places = dict([(name, place_put(self.places[name], (row, at), text)) for name in self.places])
        return count

    def cut(self, row, at, row2, at2):
        """Takes out what lies between two places; tells how many rows were gone over."""
        ahead = self.tinted.rows()
        count = self.tinted.cut(row, at, row2, at2)
        self.keep(row, ahead[row:row2 + 1], 1)
        self.places = dict([(name, place_cut(self.places[name], (row, at), (row2, at2))) for name in self.places])
        return count

    def keep(self, row, taken, many):
        """Keeps a deed just done, which gave so many rows from a row on, while the marks are as ahead of it."""
        given = self.tinted.rows()[row:row + many]
        self.done.append(Deed(row, taken, given, self.places))
        self.undone = []

    def undo(self):
        """Undoes the last deed; tells how many rows were gone over."""
        if not self.done:
            raise Nothing("there is nothing to undo")
        deed = self.done.pop()
        self.undone.append(deed)
        deed.places_behind = self.places
        self.places = deed.places_ahead
        return self.tinted.change(deed.row, len(deed.given), deed.taken)

    def redo(self):
        """Does the deed undone last once more; tells how many rows were gone over."""
        if not self.undone:
            raise Nothing("there is nothing to do once more")
        deed = self.undone.pop()
        self.done.append(deed)
        self.places = deed.places_behind
        return self.tinted.change(deed.row, len(deed.taken), deed.given)


def place_put(place, first, text):
    """Where a mark's place is behind a text's putting in at the first place."""
    if place < first:
        return place
    pieces = text.split("\n")
    more = len(pieces) - 1
    if place[0] > first[0]:
        return (place[0] + more, place[1])
    # What stood behind the first place stands behind the last piece, which begins a row of its own or goes on with it.
    begin = 0 if more > 0 else first[1]
    return (first[0] + more, begin + len(pieces[-1]) + place[1] - first[1])


def place_cut(place, first, second):
    """Where a mark's place is behind the taking out of what lies between two places."""
    if place <= first:
        return place
    if place <= second:
        return first
    if place[0] > second[0]:
        return (place[0] - second[0] + first[0], place[1])
    return (first[0], first[1] + place[1] - second[1])
