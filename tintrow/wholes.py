"""A text gone over from its start."""

from tintrow.going import gone_over
from tintrow.rules import START


def begins(rules, rows):
    """The list of the modes that are on at each row's begin, and, last, behind the last row."""
    return [[START]] + [told[1] for told in all_told(rules, rows)]


def colours(rules, rows):
    """The list of each row's colours."""
    return [told[0] for told in all_told(rules, rows)]


def fold_marks(rules, rows):
    """The list of each row's fold marks."""
    return [told[2] for told in all_told(rules, rows)]


def all_told(rules, rows):
    """The list of what going over tells of each row."""
    modes = [START]
    all_rows = []
    for row in rows:
        told = gone_over(rules, modes, row)
        all_rows.append(told)
        modes = told[1]
    return all_rows
