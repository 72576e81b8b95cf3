"""Rows of a log: what is one, and where its two offices meet."""

from takenover.kinds import is_number, is_tuple_of


def is_row(offices, thing):
    """Tell whether this is a row of a log of so many offices."""
    if not is_tuple_of(thing, 3):
        return False
    x, y, sure = thing
    if not is_number(x, offices) or not is_number(y, offices):
        return False
    return abs(x - y) == 1 and isinstance(sure, bool)


def is_left(row):
    """Tell whether a sheet goes left by this row."""
    return row[1] > row[0]


def cut_between(row):
    """Return the cut between the two offices of a row."""
    return max(row[0], row[1])
