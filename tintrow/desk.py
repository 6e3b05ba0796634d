"""A desk: it is told rows, one at a time, and answers each with a text."""

from tintrow.errors import NoLine
from tintrow.errors import NoRules
from tintrow.looking import piece_of
from tintrow.pages import tint_of
from tintrow.reading import read_rules
from tintrow.scribe import Scribe

FIGURES = "0123456789"
MOST_FIGURES = 4
# Each row's first word, and what the others are.
LISTED = {
    "rules": (),
    "put": ("ROW", "AT"),
    "cut": ("ROW", "AT", "ROW", "AT"),
    "undo": (),
    "redo": (),
    "mark": ("NAME", "ROW", "AT"),
    "drop": ("NAME",),
    "marks": (),
    "row": ("ROW",),
    "tint": ("ROW",),
    "folds": (),
    "never": (),
}
WITH_TEXT = ("rules", "put")
COUNTED = ("put", "cut", "undo", "redo")
BY_HAND = ("mark", "drop")


class Line:
    """A row that is as listed: its first word, its names and numbers, and the text behind its first line end."""

    def __init__(self, words, body):
        kinds = LISTED[words[0]]
        self.head = words[0]
        self.names = [word for word, kind in zip(words[1:], kinds) if kind == "NAME"]
        self.numbers = [int(word) for word, kind in zip(words[1:], kinds) if kind != "NAME"]
        self.body = body


class Desk:
    """At first it has no rules, and the text of one row without signs."""

    def __init__(self):
        self.scribe = None

    def say(self, row):
        """The answer to a row."""
        line = read_line(row)
        if line.head == "rules":
            self.scribe = Scribe(read_rules(line.body), self.all_rows())
            return "ok"
        if self.scribe is None:
            raise NoRules(0, 0)
        if line.head in COUNTED:
            return str(counted(self.scribe, line))
        if line.head in BY_HAND:
            do_by_hand(self.scribe, line)
            return "ok"
        return told(self.scribe, line)

    def all_rows(self):
        """The list of the text's rows."""
        return [""] if self.scribe is None else self.scribe.text().rows()


def read_line(row):
    """The Line that a row tells, or NoLine where it is not as listed."""
    parts = row.partition("\n")
    words = parts[0].split(" ")
    if words[0] not in LISTED:
        raise NoLine(f"{row!r} begins with no word that is listed")
    if (parts[1] != "") != (words[0] in WITH_TEXT):
        raise NoLine(f"{row!r} has a line end where there is none to be, or none where there is one to be")
    kinds = LISTED[words[0]]
    if len(words) != len(kinds) + 1 or not all([is_word(word, kind) for word, kind in zip(words[1:], kinds)]):
        raise NoLine(f"{row!r} has other words than are listed")
    return Line(words, parts[2])


def is_word(word, kind):
    """Whether a word is one of this kind."""
    return word != "" if kind == "NAME" else is_number(word)


def is_number(word):
    """Whether a word is one to four figures without a nought ahead, or 0 itself."""
    if len(word) < 1 or len(word) > MOST_FIGURES or not all([sign in FIGURES for sign in word]):
        return False
    return word == "0" or not word.startswith("0")


def counted(scribe, line):
    """Changes the text as a line asks; tells how many rows were gone over."""
    numbers = line.numbers
    if line.head == "put":
        return scribe.put(numbers[0], numbers[1], line.body)
    if line.head == "cut":
        return scribe.cut(numbers[0], numbers[1], numbers[2], numbers[3])
    if line.head == "undo":
        return scribe.undo()
    return scribe.redo()


def do_by_hand(scribe, line):
    """Sets a mark or takes it away."""
    if line.head == "mark":
        scribe.set_mark(line.names[0], line.numbers[0], line.numbers[1])
    else:
        scribe.drop_mark(line.names[0])


def told(scribe, line):
    """What a line asks for."""
    text = scribe.text()
    if line.head == "row":
        return text.gone_row(line.numbers[0]).signs
    if line.head == "tint":
        return tint_of(text.colours(line.numbers[0]))
    if line.head == "marks":
        return "\n".join([shown_mark(name, place) for name, place in scribe.marks().items()])
    if line.head == "folds":
        return "\n".join([shown_fold(fold) for fold in scribe.folds()])
    return "\n".join(hidden_rules(text.rules))


def shown_mark(name, place):
    """The row of one mark."""
    return name + " " + shown_place(place)


def shown_fold(fold):
    """The row of one fold."""
    end = "- -" if fold[2] is None else shown_place(fold[2])
    return shown_place((fold[0], fold[1])) + " " + end


def shown_place(place):
    """A row and a place of it."""
    return str(place[0]) + " " + str(place[1])


def hidden_rules(rules):
    """The list of the rows of the rules that never come."""
    rows = []
    for number, mode in enumerate(rules.modes):
        for rule in range(len(mode.rules)):
            if piece_of(rules, number, rule) is None:
                rows.append(mode.name + " " + str(rule))
    return rows
