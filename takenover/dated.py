"""Dated finds: whether they fit a log, in which doing, and between which cuts."""

from takenover.bounds import doing_in_which, least_bounds
from takenover.changes import mirrored
from takenover.checks import check_finds
from takenover.logs import all_sheets, is_doing


def fit(log, finds):
    """Tell whether in some doing all finds are true."""
    check_finds(log, finds)
    return least_bounds(log, finds) is not None


def doing_for(log, finds):
    """Return a doing in which the finds are true, None if there is none."""
    check_finds(log, finds)
    return doing_in_which(log, finds)


def is_doing_for(log, finds, thing):
    """Tell whether this is a doing in which the finds are true."""
    check_finds(log, finds)
    if not is_doing(log, thing):
        return False
    moments = all_sheets(log, thing)
    return all([moments[moment][office] == edition for moment, office, edition in finds])


def least_cuts(log, finds):
    """Return the least cuts of all borders at each moment, None if the finds do not fit."""
    check_finds(log, finds)
    cuts = least_bounds(log, finds)
    return None if cuts is None else tuple([tuple(stands) for stands in cuts])


def greatest_cuts(log, finds):
    """Return the greatest cuts of all borders at each moment, None if the finds do not fit."""
    cuts = least_bounds(mirrored(log), mirrored_finds(log, finds))
    if cuts is None:
        return None
    return tuple([tuple([log.offices - cut for cut in stands[::-1]]) for stands in cuts])


def mirrored_finds(log, finds):
    """Return the list of the finds with offices and editions numbered from the other end."""
    check_finds(log, finds)
    last = log.offices - 1
    return [(moment, last - office, last - edition) for moment, office, edition in finds]
