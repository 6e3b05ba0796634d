"""A text that is changed, and of which only what must be is gone over again."""

from tintrow.errors import NoPlace
from tintrow.going import gone_over
from tintrow.looking import ask_rings
from tintrow.rules import START
from tintrow.rules import copied_rules


class GoneRow:
    """A row with the modes from which it was gone over last, and what was told of it; it is only read."""

    def __init__(self, rules, modes, row):
        told = gone_over(rules, modes, row)
        self.signs = row
        self.before = modes
        self.tints = told[0]
        self.behind = told[1]
        self.folded = told[2]


class Tinted:
    """A text of one or more rows, each kept with its beginning modes, colours and fold marks."""

    def __init__(self, rules, rows):
        ask_rings(rules)
        self.rules = copied_rules(rules)
        self.gone_rows = self.go_over([START], rows)

    def rows(self):
        """The list of the rows."""
        return [gone.signs for gone in self.gone_rows]

    def begin(self, row):
        """The list of the modes that are on at a row's begin."""
        return list(self.gone_row(row).before)

    def colours(self, row):
        """The list of the colours of a row's signs."""
        return list(self.gone_row(row).tints)

    def marks(self, row):
        """The list of a row's fold marks."""
        return list(self.gone_row(row).folded)

    def change(self, row, many, rows):
        """Takes so many rows out from a row on, and puts others in their place; tells how many were gone over."""
        self.ask_taken(row, many)
        if many == len(self.gone_rows) and not rows:
            raise NoPlace("no row would be left")
        taken = self.rows()[row:row + many]
        ahead = same_ahead(taken, rows)
        back = same_back(taken[ahead:], rows[ahead:])
        first = row + ahead
        changed = self.go_over(self.modes_ahead(first), rows[ahead:len(rows) - back])
        self.gone_rows = self.gone_rows[:first] + changed + self.gone_rows[row + many - back:]
        return len(changed) + self.go_on(first + len(changed))

    def put(self, row, at, text):
        """Puts a text, perhaps with line ends, in at a place of a row; tells how many rows were gone over."""
        self.ask_place(row, at)
        signs = self.gone_rows[row].signs
        return self.change(row, 1, (signs[:at] + text + signs[at:]).split("\n"))

    def cut(self, row, at, row2, at2):
        """Takes out what lies between two places; tells how many rows were gone over."""
        self.ask_places(row, at, row2, at2)
        left = self.gone_rows[row].signs[:at] + self.gone_rows[row2].signs[at2:]
        return self.change(row, row2 - row + 1, [left])

    def part(self, row, at, row2, at2):
        """The text between two places, with line ends between rows."""
        self.ask_places(row, at, row2, at2)
        parts = self.rows()[row:row2 + 1]
        # The end is cut first: where both places are in one row, the begin's cut would move it.
        parts[-1] = parts[-1][:at2]
        parts[0] = parts[0][at:]
        return "\n".join(parts)

    def go_over(self, modes, rows):
        """The list of these rows as they are gone over one behind the other, from these modes on."""
        gone_rows = []
        for row in rows:
            gone = GoneRow(self.rules, modes, row)
            gone_rows.append(gone)
            modes = gone.behind
        return gone_rows

    def go_on(self, row):
        """Goes over the rows from this one on as long as their beginning modes are others; tells how many."""
        at = row
        while at < len(self.gone_rows) and self.gone_rows[at].before != self.modes_ahead(at):
            self.gone_rows[at] = GoneRow(self.rules, self.modes_ahead(at), self.gone_rows[at].signs)
            at += 1
        return at - row

    def modes_ahead(self, row):
        """The modes that are on behind the row ahead of this one, or at the text's start."""
        return self.gone_rows[row - 1].behind if row > 0 else [START]

    def gone_row(self, row):
        """What is kept of a row, or NoPlace."""
        self.ask_row(row)
        return self.gone_rows[row]

    def ask_row(self, row):
        """Refuses a row that there is not."""
        if row < 0 or row >= len(self.gone_rows):
            raise NoPlace(f"there is no row {row}")

    def ask_place(self, row, at):
        """Refuses a place that there is not."""
        self.ask_row(row)
        if at < 0 or at > len(self.gone_rows[row].signs):
            raise NoPlace(f"there is no place {at} in row {row}")

    def ask_places(self, row, at, row2, at2):
        """Refuses two places of which there is not one, or of which the first one is behind the second one."""
        self.ask_place(row, at)
        self.ask_place(row2, at2)
        if (row, at) > (row2, at2):
            raise NoPlace("the first place is behind the second one")

    def ask_taken(self, row, many):
        """Refuses so many rows from a row on where there are not as many."""
        if row < 0 or many < 0 or row + many > len(self.gone_rows):
            raise NoPlace(f"there are no {many} rows from row {row} on")


def same_ahead(some, others):
    """How many texts of two lists are the same, from the first one on."""
    many = 0
    for one, other in zip(some, others):
        if one != other:
            return many
        many += 1
    return many


def same_back(some, others):
    """How many texts of two lists are the same, from the last one back."""
    return same_ahead(list(reversed(some)), list(reversed(others)))
