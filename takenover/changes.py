"""Logs made out of logs, and sheets led over one row."""

from takenover.checks import check_row
from takenover.errors import BadRow, NoNumber, NoRow, NoSheets, OtherOffices
from takenover.kinds import are_sheets, is_between, is_number
from takenover.logs import log_of_any_size
from takenover.rows import is_row

MOST_TIMES = 100


def behind(one_log, other_log):
    """Return the log of the rows of the one log, then those of the other."""
    if one_log.offices != other_log.offices:
        raise OtherOffices()
    return log_of_any_size(one_log.offices, one_log.rows + other_log.rows)


def repeated(log, times):
    """Return the log whose rows come so often."""
    if not is_between(times, 0, MOST_TIMES):
        raise NoNumber()
    return log_of_any_size(log.offices, log.rows * times)


def mirrored(log):
    """Return the log with its offices numbered from the other end."""
    last = log.offices - 1
    return log_of_any_size(log.offices, tuple([(last - x, last - y, sure) for x, y, sure in log.rows]))


def without(log, row):
    """Return the log without the row of this number."""
    check_row(log, row)
    return log_of_any_size(log.offices, log.rows[:row] + log.rows[row + 1:])


def with_row(log, at, row):
    """Return the log with one more row ahead of the one with the number at, or at the end."""
    if not is_number(at, len(log.rows) + 1):
        raise NoRow()
    if not is_row(log.offices, row):
        raise BadRow()
    return log_of_any_size(log.offices, log.rows[:at] + (row,) + log.rows[at:])


def loosened(log):
    """Return the log with the same rows, none of them sure."""
    return log_of_any_size(log.offices, tuple([(x, y, False) for x, y, _ in log.rows]))


def can_follow(log, editions, row):
    """Return the sheets behind a row if it is not done, and if it is."""
    if not are_sheets(editions) or len(editions) != log.offices:
        raise NoSheets()
    check_row(log, row)
    x, y, _ = log.rows[row]
    return editions, editions[:x] + (editions[y],) + editions[x + 1:]
