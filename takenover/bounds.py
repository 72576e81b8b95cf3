"""Bounds: at which cut, or a greater one, a border stands at a moment, and what comes from that (7.2)."""

from takenover.rows import is_left


def led_on(row):
    """Return the cut at which a bound is moved by a row, on to the next moment, and where to."""
    x, y, sure = row
    if is_left(row):
        return y, x
    return (x, x + 1) if sure else (-1, -1)


def led_back(row):
    """Return the cut at which a bound is moved by a row, back to the moment ahead, and where to."""
    x, y, sure = row
    if not is_left(row):
        return x + 1, x
    return (y, y + 1) if sure else (-1, -1)


def moved(leading, cut):
    """Return where a leading moves a cut."""
    start, end = leading
    return end if cut == start else cut


def first_bounds(log, finds):
    """Return the list of the bounds that come from the start and from finds."""
    found = [(0, border, border) for border in range(log.offices + 1)]
    return found + [(moment, edition + 1, office + 1) for moment, office, edition in finds]


def further_bounds(log, latest, bound):
    """Return the list of the bounds that come from a bound.

    latest has, for each edition, the last moment at which a find shows it.
    """
    moment, border, cut = bound
    found = []
    if border < log.offices:
        found.append((moment, border + 1, cut))
        if latest[border] >= moment:
            found.append((moment, border + 1, cut + 1))
    if moment < len(log.rows):
        found.append((moment + 1, border, moved(led_on(log.rows[moment]), cut)))
    if moment > 0:
        found.append((moment - 1, border, moved(led_back(log.rows[moment - 1]), cut)))
    return found


def least_offices(finds):
    """Return a dict from each (moment, edition) of finds to the least office that they show it at."""
    found = {}
    for moment, office, edition in finds:
        found[(moment, edition)] = min(office, found.get((moment, edition), office))
    return found


def is_denied(bound, shown):
    """Tell whether a bound is denied by the start, or by finds, of which the least offices are told."""
    moment, border, cut = bound
    if moment == 0 and cut > border:
        return True
    return (moment, border) in shown and cut > shown[(moment, border)]
