"""A second, plain reading of the document that the tests hold the program against.

It reads the rules' text by itself, takes regular expressions for patterns, and goes over whole texts alone.
"""

import re

SIGNS = [chr(code) for code in range(ord(" "), ord("~") + 1) if chr(code) != "%"]
# More rules than these at one place, or modes on, are told nowhere by a text of this size.
TOO_MANY = 20000


class Endless(Exception):
    """A row that is gone over without end."""


class PlainRule:
    def __init__(self, words, names):
        kind = words.pop(0)
        signs = words.pop(0)[1:].replace("_", " ") if kind in ("word", "one", "none", "many") else ""
        self.fits = re.compile(expression(kind, signs))
        self.eats = kind not in ("still", "end")
        self.colour = words.pop(0) if self.eats else ""
        self.deed = words.pop(0)
        self.goal = names.index(words.pop(0)) if self.deed in ("push", "into") else None
        self.fold = words.pop(0) if words else ""

    def eaten(self, row, at):
        fit = self.fits.match(row, at)
        return None if fit is None else fit.end() - at


def expression(kind, signs):
    sure = re.escape(signs)
    forms = {"word": sure, "one": f"[{sure}]", "none": f"[^{sure}]", "many": f"[{sure}]+"}
    forms.update({"any": ".", "still": "(?=.)", "end": r"\Z"})
    return forms[kind]


class PlainMode:
    def __init__(self, name, colour):
        self.name = name
        self.colour = colour
        self.rules = []

    def first(self, row, at):
        fitting = [number for number, rule in enumerate(self.rules) if rule.eaten(row, at) is not None]
        return fitting[0] if fitting else None


def plain_modes(text):
    """The modes that a rules' text tells."""
    rows = [row.split(" ") for row in text.split("\n")]
    names = [row[1] for row in rows if row[0] == "mode"]
    modes = []
    for row in rows:
        if row[0] == "mode":
            modes.append(PlainMode(row[1], row[2]))
        else:
            modes[-1].rules.append(PlainRule(list(row), names))
    return modes


def plain_after(on, rule):
    """The modes that are on behind a rule's deed."""
    if rule.deed == "stay":
        return on[:]
    if rule.deed == "push":
        return on + [rule.goal]
    if rule.deed == "into":
        return on[:-1] + [rule.goal]
    return on[:-1] or [0]


def plain_row(modes, on, row):
    """A row's colours, the modes behind it, and its fold marks; Endless where it comes to no end."""
    colours = [None] * len(row)
    folds = []
    at = 0
    rules_here = 0
    while True:
        mode = modes[on[-1]]
        number = mode.first(row, at)
        if number is None and at == len(row):
            return (colours, on[:], folds)
        if number is None:
            colours[at] = mode.colour
            at += 1
            rules_here = 0
            continue
        rule = mode.rules[number]
        if rule.fold:
            folds.append((at, rule.fold))
        on = plain_after(on, rule)
        eaten = rule.eaten(row, at)
        colours[at : at + eaten] = [rule.colour] * eaten
        at += eaten
        rules_here = rules_here + 1 if eaten == 0 else 0
        if rules_here > TOO_MANY:
            raise Endless()


def plain_text(modes, rows):
    """Each row's beginning modes (and those behind the last one), colours, and fold marks, from the text's start."""
    begins = [[0]]
    colours = []
    folds = []
    for row in rows:
        told = plain_row(modes, begins[-1], row)
        colours.append(told[0])
        begins.append(told[1])
        folds.append(told[2])
    return (begins, colours, folds)


def plain_change(old, row, many, new):
    """The rows behind a change."""
    return old[:row] + list(new) + old[row + many :]


def plain_count(modes, old, row, many, new):
    """How many rows a change goes over: the changed ones, and those behind them up to the first as it was."""
    out = old[row : row + many]
    ahead = 0
    while ahead < min(len(out), len(new)) and out[ahead] == new[ahead]:
        ahead += 1
    back = 0
    while back < min(len(out), len(new)) - ahead and out[-1 - back] == new[-1 - back]:
        back += 1
    count = len(new) - ahead - back
    was = plain_text(modes, old)[0]
    becomes = plain_text(modes, plain_change(old, row, many, new))[0]
    at = row + len(new) - back
    moved = many - len(new)
    while at < len(becomes) - 1 and becomes[at] != was[at + moved]:
        count += 1
        at += 1
    return count


def idle_rule(modes, on, row):
    """The rule that comes at the row's begin, or None where none does or it eats."""
    number = modes[on[-1]].first(row, 0)
    if number is None or modes[on[-1]].rules[number].eats:
        return None
    return modes[on[-1]].rules[number]


def walks(modes, below, ring, row):
    """Whether the ring's modes come to be on top one after another, and then the first one, upon these modes."""
    on = below + [ring[0]]
    for wanted in ring[1:] + ring[:1]:
        rule = idle_rule(modes, on, row)
        if rule is None:
            return False
        on = plain_after(on, rule)
        if on[-1] != wanted:
            return False
    return True


def is_ring(modes, names, sign):
    """Whether names and a sign, or None, are a ring as point 10 tells."""
    row = "" if sign is None else sign
    if not names or (sign is not None and sign not in SIGNS):
        return False
    ring = [[mode.name for mode in modes].index(name) for name in names]
    if ring[0] == 0 and walks(modes, [], ring, row):
        return True
    numbers = range(len(modes))
    heaps = [[]] + [[one] for one in numbers] + [[one, other] for one in numbers for other in numbers]
    return all(walks(modes, below, ring, row) for below in heaps)


def has_endless(modes, signs):
    """Whether some place, at a row's end or ahead of one of these signs, is never left behind.

    A run without end has a last time at which its lowest heap of modes is reached. From there on it never looks below,
    or it begins again and again with the start mode alone; so single modes show it.
    """
    for row in [""] + list(signs):
        for first in range(len(modes)):
            on = [first]
            steps = 0
            while steps < 500:
                rule = idle_rule(modes, on, row)
                if rule is None or (rule.deed == "pop" and len(on) == 1 and first != 0):
                    break
                on = plain_after(on, rule)
                steps += 1
            else:
                return True
    return False


def some_rules(chance, idle):
    """A rules' text by chance over the signs a, b and the blank; of ten rules about so many eat nothing."""
    names = ["s", "t", "u", "v"][: chance.randint(1, 4)]
    rows = []
    for name in names:
        rows.append(f"mode {name} m{name}")
        for turn in range(chance.randint(0, 5)):
            rows.append(some_rule(chance, names, idle))
    return "\n".join(rows)


def some_rule(chance, names, idle):
    goal = chance.choice(names)
    deed = chance.choice(["stay", f"push {goal}", "pop", f"into {goal}"])
    fold = chance.choice(["", "", "", " open", " close"])
    if chance.randrange(10) < idle:
        return chance.choice(["still", "end"]) + " " + deed + fold
    kind = chance.choice(["word", "word", "one", "none", "many", "any"])
    signs = "".join([chance.choice("ab_") for turn in range(chance.randint(1, 3))])
    pattern = "any" if kind == "any" else f"{kind} '{signs}"
    return f"{pattern} c{chance.choice('rgb')} {deed}{fold}"


class Watched:
    """A tinted text beside its rows; behind each change all that it tells is held against the plain reading."""

    def __init__(self, case, tinted, rules_text, rows):
        self.case = case
        self.tinted = tinted
        self.modes = plain_modes(rules_text)
        self.rows = list(rows)
        self.check()

    def check(self):
        told = plain_text(self.modes, self.rows)
        numbers = range(len(self.rows))
        self.case.assertEqual(self.tinted.rows(), self.rows)
        self.case.assertEqual([self.tinted.begin(row) for row in numbers], told[0][:-1])
        self.case.assertEqual([self.tinted.colours(row) for row in numbers], told[1])
        self.case.assertEqual([self.tinted.marks(row) for row in numbers], told[2])

    def become(self, row, many, new, count):
        """Takes the rows for changed, and holds against them what is told, and how many were gone over."""
        expected = plain_count(self.modes, self.rows, row, many, new)
        self.case.assertIs(type(count), int)
        self.case.assertEqual(count, expected, (self.rows, row, many, new))
        self.rows = plain_change(self.rows, row, many, new)
        self.check()
        return count

    def change(self, row, many, new):
        handed = list(new)
        count = self.tinted.change(row, many, handed)
        self.case.assertEqual(handed, new)
        handed.append("strange")
        return self.become(row, many, new, count)

    def put(self, row, at, text):
        new = (self.rows[row][:at] + text + self.rows[row][at:]).split("\n")
        return self.become(row, 1, new, self.tinted.put(row, at, text))

    def cut(self, row, at, row2, at2):
        new = [self.rows[row][:at] + self.rows[row2][at2:]]
        return self.become(row, row2 - row + 1, new, self.tinted.cut(row, at, row2, at2))

    def part(self, row, at, row2, at2):
        """The part between two places, held against the whole text with its line ends."""
        whole = "\n".join(self.rows)
        expected = whole[self.place(row, at) : self.place(row2, at2)]
        self.case.assertEqual(self.tinted.part(row, at, row2, at2), expected)
        self.check()
        return expected

    def place(self, row, at):
        """How many signs and line ends stand ahead of a place."""
        return sum([len(ahead) + 1 for ahead in self.rows[:row]]) + at


def plain_folds(rows_marks):
    """All open marks in their order, each with the place at which, counted from it on, as many are closed as opened."""
    every = [(row, place, kind) for row, marks in enumerate(rows_marks) for place, kind in marks]
    openings = [number for number, mark in enumerate(every) if mark[2] == "open"]
    return [(every[number][0], every[number][1], plain_end(every[number:])) for number in openings]


def plain_end(marks):
    """The place of the mark that closes the first one of these, or None."""
    deep = 0
    for row, place, kind in marks:
        deep += {"open": 1, "close": -1}[kind]
        if deep == 0:
            return (row, place)
    return None


def plain_depths(rows_marks):
    """How many folds reach over each row's begin."""
    folds = plain_folds(rows_marks)
    return [
        len([1 for begin, place, end in folds if begin < row and (end is None or end[0] >= row)])
        for row in range(len(rows_marks))
    ]


def plain_fold_of(rows_marks, row):
    """The row where the fold of this row ends, or None."""
    ends = [end[0] for begin, place, end in plain_folds(rows_marks) if begin == row and end is not None and end[0] > row]
    return ends[0] if ends else None


def plain_tint(colours):
    """A row's tint, run by run."""
    runs = []
    for colour in colours:
        if runs and runs[-1][1] == colour:
            runs[-1][0] += 1
        else:
            runs.append([1, colour])
    return ", ".join([f"{many} {colour}" for many, colour in runs])


def plain_place(rows, many):
    """The place ahead of which so many signs and line ends stand."""
    ahead = "\n".join(rows)[:many].split("\n")
    return (len(ahead) - 1, len(ahead[-1]))


def all_places(rows):
    return [(row, at) for row, signs in enumerate(rows) for at in range(len(signs) + 1)]


def told_by(scribe):
    """All that a scribe tells, the order of its marks too."""
    text = scribe.text()
    numbers = range(len(text.rows()))
    rows = [(text.rows()[row], text.begin(row), text.colours(row), text.marks(row)) for row in numbers]
    return (rows, scribe.folds(), list(scribe.marks().items()))


class WatchedScribe:
    """A scribe beside its rows and marks; behind each deed all that it tells is held against the plain reading.

    A deed is kept as the row it begins with, the rows it took out and gave, the marks then and all that was told then.
    """

    def __init__(self, case, scribe, rules_text, rows):
        self.case = case
        self.scribe = scribe
        self.watched = Watched(case, scribe.text(), rules_text, rows)
        self.marks = {}
        self.done = []
        self.undone = []
        self.check()

    @property
    def rows(self):
        return self.watched.rows

    def check(self):
        self.watched.tinted = self.scribe.text()
        self.watched.check()
        marks = self.scribe.marks()
        self.case.assertIs(type(marks), dict)
        self.case.assertEqual(list(marks.items()), sorted(self.marks.items()))
        self.case.assertTrue(all(type(place) is tuple for place in marks.values()))
        told = plain_text(self.watched.modes, self.rows)
        self.case.assertEqual(self.scribe.folds(), plain_folds(told[2]))

    def become(self, row, many, new, count, marks):
        """Takes the rows and the marks for changed, and holds against them all that is told."""
        self.watched.tinted = self.scribe.text()
        self.watched.become(row, many, new, count)
        self.marks = marks
        self.check()
        return count

    def do(self, row, many, new, deed, moved):
        """Does a deed; moved tells of how many signs a mark stood behind of how many it then does."""
        offsets = {name: moved(self.watched.place(*place)) for name, place in self.marks.items()}
        kept = (row, self.rows[row : row + many], new, dict(self.marks), told_by(self.scribe))
        marks = {name: plain_place(plain_change(self.rows, row, many, new), offset) for name, offset in offsets.items()}
        count = self.become(row, many, new, deed(), marks)
        self.done.append(kept)
        self.undone = []
        return count

    def put(self, row, at, text):
        first = self.watched.place(row, at)
        new = (self.rows[row][:at] + text + self.rows[row][at:]).split("\n")
        return self.do(
            row, 1, new, lambda: self.scribe.put(row, at, text), lambda mark: mark + len(text) if mark >= first else mark
        )

    def cut(self, row, at, row2, at2):
        first, second = self.watched.place(row, at), self.watched.place(row2, at2)
        new = [self.rows[row][:at] + self.rows[row2][at2:]]
        return self.do(
            row,
            row2 - row + 1,
            new,
            lambda: self.scribe.cut(row, at, row2, at2),
            lambda mark: mark - min(max(mark - first, 0), second - first),
        )

    def undo(self):
        row, taken, given, marks, told = self.done.pop()
        self.undone.append((row, taken, given, self.marks, told_by(self.scribe), (marks, told)))
        count = self.become(row, len(given), taken, self.scribe.undo(), dict(marks))
        self.case.assertEqual(told_by(self.scribe), told)
        return count

    def redo(self):
        row, taken, given, marks, told, first = self.undone.pop()
        self.done.append((row, taken, given, *first))
        count = self.become(row, len(taken), given, self.scribe.redo(), dict(marks))
        self.case.assertEqual(told_by(self.scribe), told)
        return count

    def set_mark(self, name, row, at):
        self.case.assertIsNone(self.scribe.set_mark(name, row, at))
        self.marks[name] = (row, at)
        self.check()

    def drop_mark(self, name):
        self.case.assertIsNone(self.scribe.drop_mark(name))
        del self.marks[name]
        self.check()


def some_text(chance, signs, most_rows):
    """A text by chance of up to so many rows, each of up to six of these signs."""
    rows = ["".join([chance.choice(signs) for turn in range(chance.randint(0, 6))]) for row in range(most_rows)]
    return "\n".join(rows[: chance.randint(1, most_rows)])


def some_deed(chance, scribe, signs):
    """A method of a scribe that is watched and what is handed to it, by chance, such that it is not refused."""
    first, second = sorted(chance.choices(all_places(scribe.rows), k=2))
    deed = chance.choice(["put", "put", "put", "cut", "cut", "undo", "undo", "undo", "redo", "redo", "mark", "mark", "drop"])
    if deed == "put":
        return ("put", *first, "" if chance.randrange(8) == 0 else some_text(chance, signs, 3))
    if deed == "cut":
        return ("cut", *first, *(first if chance.randrange(8) == 0 else second))
    if deed == "undo" and scribe.done or deed == "redo" and scribe.undone:
        return (deed,)
    if deed == "drop" and scribe.marks:
        return ("drop_mark", chance.choice(sorted(scribe.marks)))
    return ("set_mark", chance.choice(["a", "b", "aa", "mark", "eightlet"]), *first)
