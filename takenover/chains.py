"""Chains of bounds, which bar finds that do not fit."""

from takenover.bounds import first_bounds, further_bounds, is_denied, least_offices
from takenover.checks import check_finds
from takenover.extremes import latest_shown
from takenover.kinds import is_integer, is_tuple_of


def chain_to(ahead, bound):
    """Return the list of the bounds that lead to a bound, by the one ahead of each."""
    found = [bound]
    while ahead[found[-1]] is not None:
        found.append(ahead[found[-1]])
    return found[::-1]


def chain(log, finds):
    """Return a chain, None if the finds fit."""
    check_finds(log, finds)
    latest = latest_shown(log.offices, finds)
    shown = least_offices(finds)
    queue = first_bounds(log, finds)
    ahead = {bound: None for bound in queue}
    greatest = {}
    at = 0
    while at < len(queue):
        bound = queue[at]
        at += 1
        if is_denied(bound, shown):
            return chain_to(ahead, bound)
        moment, border, cut = bound
        # A bound of a greater cut leads to all that this one leads to.
        if cut <= greatest.get((moment, border), -1):
            continue
        greatest[(moment, border)] = cut
        for further in further_bounds(log, latest, bound):
            if further not in ahead:
                ahead[further] = bound
                queue.append(further)
    return None


def is_bound(thing):
    """Tell whether this is a triple of integers."""
    return is_tuple_of(thing, 3) and all([is_integer(number) for number in thing])


def is_chain(log, finds, thing):
    """Tell whether this is a list of bounds, each from what is ahead of it, the last one denied."""
    check_finds(log, finds)
    if not isinstance(thing, list) or not thing or not all([is_bound(bound) for bound in thing]):
        return False
    if thing[0] not in first_bounds(log, finds):
        return False
    latest = latest_shown(log.offices, finds)
    for bound, following in zip(thing, thing[1:]):
        if following not in further_bounds(log, latest, bound):
            return False
    return is_denied(thing[-1], least_offices(finds))
