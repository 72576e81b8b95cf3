"""When an office can have held an edition."""

from takenover.checks import check_edition, check_finds, check_office
from takenover.errors import NoPair
from takenover.holding import Holding, held_between
from takenover.kinds import are_numbers, is_tuple_of


def check_pair(log, thing):
    """Raise NoPair unless this is a pair of an office and an edition."""
    if not is_tuple_of(thing, 2) or not are_numbers(thing, log.offices):
        raise NoPair()


def moments_held(log, finds, office, edition):
    """Return the ascending list of the moments at which an office can hold an edition."""
    check_finds(log, finds)
    check_office(log, office)
    check_edition(log, edition)
    return held_between(log, finds).moments_held(office, edition)


def both_held(log, finds, one, other):
    """Return the least pair of moments at which two offices hold two editions in some doing, None if there is none."""
    check_finds(log, finds)
    check_pair(log, one)
    check_pair(log, other)
    held = held_between(log, finds)
    there = held.spans.there
    office, edition = one
    last_tried = None
    for moment in held.moments_held(office, edition):
        # At all moments of a span the office holds the same edition.
        if there[moment][office] != last_tried:
            last_tried = there[moment][office]
            further = Holding(held.spans, list(finds) + [(moment, office, edition)])
            moments = further.moments_held(other[0], other[1])
            if moments:
                return moment, moments[0]
    return None
