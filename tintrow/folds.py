"""Folds: the pairs of fold marks that a plain reading from a text's start tells."""

from tintrow.errors import NoPlace


def folds(rows_marks):
    """The list of all open marks in their order: tuples of row, place, and where it is closed, a tuple or None."""
    told = []
    waiting = []
    for row, marks in enumerate(rows_marks):
        for place, kind in marks:
            if kind == "open":
                waiting.append(len(told))
                told.append((row, place, None))
            elif waiting:
                number = waiting.pop()
                told[number] = (told[number][0], told[number][1], (row, place))
    return told


def depths(rows_marks):
    """The list of how many open marks wait at each row's begin."""
    told = []
    waiting = 0
    for marks in rows_marks:
        told.append(waiting)
        for mark in marks:
            waiting = waiting + 1 if mark[1] == "open" else max(waiting - 1, 0)
    return told


def fold_of(rows_marks, row):
    """The row where the first open mark of this row that closes in a later row closes, or None."""
    if row < 0 or row >= len(rows_marks):
        raise NoPlace(f"there is no row {row}")
    for fold in folds(rows_marks):
        end = fold[2]
        if fold[0] == row and end is not None and end[0] > row:
            return end[0]
    return None
