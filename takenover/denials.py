"""Finds that are true beside denials, finds that are not."""

from takenover.checks import check_denials, check_finds
from takenover.dated import is_doing_for
from takenover.extremes import doing_by
from takenover.holding import Holding
from takenover.spans import Spans


def is_untrue(spans, editions, denials):
    """Tell whether no denial is true if the spans hold these editions."""
    return all([editions[spans.there[moment][office]] != edition for moment, office, edition in denials])


def extreme_doing(held, denials):
    """Return the doing of all greatest or of all least editions if no denial is true in it, None otherwise."""
    if held.possible:
        for editions in (held.greatest, held.least):
            if is_untrue(held.spans, editions, denials):
                return doing_by(held.spans, editions)
    return None


def doing_but(log, finds, denials):
    """Return a doing in which the finds are true and the denials are not, None if there is none.

    Where a denial is untrue, an office holds a greater or a lesser edition. If
    there are three at most, and some offices hold greater and some lesser ones,
    one of the denials is alone on its side: with what its office holds instead
    as a further find, all others are untrue in the doing of all greatest or of
    all least editions, if they are in any.
    """
    check_finds(log, finds)
    check_denials(log, denials)
    spans = Spans(log, ())
    held = Holding(spans, finds)
    found = extreme_doing(held, denials)
    if found is not None:
        return found
    for moment, office, untrue in denials:
        for edition in held.editions_at(moment, office):
            if edition != untrue:
                further = list(finds) + [(moment, office, edition)]
                found = extreme_doing(Holding(spans, further), denials)
                if found is not None:
                    return found
    return None


def is_doing_but(log, finds, denials, thing):
    """Tell whether this is a doing in which the finds are true and the denials are not."""
    check_finds(log, finds)
    check_denials(log, denials)
    if not is_doing_for(log, finds, thing):
        return False
    return not any([is_doing_for(log, [denial], thing) for denial in denials])
