"""Rows of a log or a web: what is one, and where the two offices of a log's row meet."""

from takenover.kinds import is_between, is_number, is_tuple_of

MOST_OFFICES = 12
MOST_ROWS = 60


def is_copying(offices, thing):
    """Tell whether this is a row of a web of so many offices: two unlike offices, and whether it is sure."""
    if not is_tuple_of(thing, 3):
        return False
    x, y, sure = thing
    if not is_number(x, offices) or not is_number(y, offices):
        return False
    return x != y and isinstance(sure, bool)


def is_row(offices, thing):
    """Tell whether this is a row of a log of so many offices: one of two neighbours."""
    return is_copying(offices, thing) and abs(thing[0] - thing[1]) == 1


def wrong_part(offices, rows, is_right):
    """Return "offices", "rows" or the number of the first thing that is no right row, None if nothing is wrong."""
    if not is_between(offices, 1, MOST_OFFICES):
        return "offices"
    if not isinstance(rows, tuple) or len(rows) > MOST_ROWS:
        return "rows"
    for number, row in enumerate(rows):
        if not is_right(offices, row):
            return number
    return None


def is_left(row):
    """Tell whether a sheet goes left by this row."""
    return row[1] > row[0]


def cut_between(row):
    """Return the cut between the two offices of a row."""
    return max(row[0], row[1])
