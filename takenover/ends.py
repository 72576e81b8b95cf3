"""What can be held at the last moment, and by whom."""

from takenover.checks import check_edition, check_few_offices, check_office
from takenover.extremes import doing_in_which
from takenover.holding import held_between
from takenover.reach import last_sheets

MOST_OFFICES = 8


def can_hold(log, office):
    """Return the ascending tuple of the editions that an office can hold at the last moment."""
    check_office(log, office)
    return held_between(log, []).editions_at(len(log.rows), office)


def can_come(log, edition):
    """Return the ascending tuple of the offices that can hold an edition at the last moment."""
    check_edition(log, edition)
    return held_between(log, []).offices_at(len(log.rows), edition)


def gone(log):
    """Return the ascending tuple of the editions that no office can hold at the last moment."""
    held = held_between(log, [])
    return tuple([edition for edition in range(log.offices) if not held.offices_at(len(log.rows), edition)])


def can_be_alone(log):
    """Return the ascending tuple of the editions of which all offices can hold the same one at the last moment."""
    last = len(log.rows)
    found = []
    for edition in range(log.offices):
        # Sheets never fall along the row, so the offices in between hold what both ends hold.
        if doing_in_which(log, [(last, 0, edition), (last, log.offices - 1, edition)]) is not None:
            found.append(edition)
    return tuple(found)


def numbers_apart(log):
    """Return the list of the numbers of unlike editions of all sheets that can be there at the last moment."""
    check_few_offices(log, MOST_OFFICES)
    return [len(set(held)) for held in last_sheets(log)]


def most_apart(log):
    """Return the greatest number of unlike editions that can be there at the last moment."""
    return max(numbers_apart(log))


def fewest_apart(log):
    """Return the least number of unlike editions that can be there at the last moment."""
    return min(numbers_apart(log))
