"""Logs, and what is told of one doing of a log."""

from takenover.checks import check_office
from takenover.errors import BadLog, NoDoing
from takenover.kinds import is_tuple_of
from takenover.rows import is_row, wrong_part


class Log:
    """The moments, in time, at which an office may have copied the sheet of a neighbour."""

    def __init__(self, offices, rows):
        part = wrong_part(offices, rows, is_row)
        if part is not None:
            raise BadLog(part)
        self.offices = offices
        self.rows = rows

    def __eq__(self, other):
        return isinstance(other, Log) and self.offices == other.offices and self.rows == other.rows


def log_of_any_size(offices, rows):
    """Return the log of these right rows, perhaps of more than are let where a log is constructed."""
    log = Log(offices, ())
    log.rows = rows
    return log


def is_doing(log, thing):
    """Tell whether this is a tuple with a flag for each row, True for the sure ones."""
    if not is_tuple_of(thing, len(log.rows)):
        return False
    return all([isinstance(done, bool) and (done or not row[2]) for done, row in zip(thing, log.rows)])


def check_doing(log, doing):
    """Raise NoDoing unless this is a doing of the log."""
    if not is_doing(log, doing):
        raise NoDoing()


def sheets(log, doing):
    """Return the editions of all offices at the last moment."""
    check_doing(log, doing)
    held = list(range(log.offices))
    for row, done in zip(log.rows, doing):
        if done:
            held[row[0]] = held[row[1]]
    return tuple(held)


def all_sheets(log, doing):
    """Return the list of the editions of all offices at each moment."""
    check_doing(log, doing)
    held = list(range(log.offices))
    found = [tuple(held)]
    for row, done in zip(log.rows, doing):
        if done:
            held[row[0]] = held[row[1]]
        found.append(tuple(held))
    return found


def bloodline(log, doing, office):
    """Return the offices through which the sheet of an office came, from its first one on."""
    check_doing(log, doing)
    check_office(log, office)
    line = [office]
    for row, done in zip(log.rows[::-1], doing[::-1]):
        if done and row[0] == line[-1]:
            line.append(row[1])
    return tuple(line[::-1])


def idle_done(log, doing):
    """Return the rows that were done and changed no sheet."""
    moments = all_sheets(log, doing)
    return tuple([at for at, done in enumerate(doing) if done and moments[at] == moments[at + 1]])
