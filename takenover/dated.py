"""Dated finds: whether they fit a log, in which doing, and between which cuts."""

from takenover.borders import borders
from takenover.checks import check_finds
from takenover.extremes import doing_in_which, greatest_editions, least_editions, sheets_by
from takenover.logs import all_sheets, is_doing
from takenover.spans import Spans


def fit(log, finds):
    """Tell whether in some doing all finds are true."""
    check_finds(log, finds)
    return greatest_editions(Spans(log, ()), finds) is not None


def doing_for(log, finds):
    """Return a doing in which the finds are true, None if there is none."""
    check_finds(log, finds)
    return doing_in_which(log, finds)


def is_doing_for(log, finds, thing):
    """Tell whether this is a doing in which the finds are true."""
    check_finds(log, finds)
    if not is_doing(log, thing):
        return False
    moments = all_sheets(log, thing)
    return all([moments[moment][office] == edition for moment, office, edition in finds])


def cuts_by(spans, editions):
    """Return the cuts of all borders at each moment if the spans hold these editions."""
    return tuple([borders(held) for held in sheets_by(spans, editions)])


def least_cuts(log, finds):
    """Return the least cuts of all borders at each moment, None if the finds do not fit."""
    check_finds(log, finds)
    spans = Spans(log, ())
    editions = greatest_editions(spans, finds)
    return None if editions is None else cuts_by(spans, editions)


def greatest_cuts(log, finds):
    """Return the greatest cuts of all borders at each moment, None if the finds do not fit."""
    check_finds(log, finds)
    spans = Spans(log, ())
    editions = least_editions(spans, finds)
    return None if editions is None else cuts_by(spans, editions)


def mirrored_finds(log, finds):
    """Return the list of the finds with offices and editions numbered from the other end."""
    check_finds(log, finds)
    last = log.offices - 1
    return [(moment, last - office, last - edition) for moment, office, edition in finds]
