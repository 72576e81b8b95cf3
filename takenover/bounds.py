"""Bounds: the least cuts at which the borders must stand if finds are true.

A bound says that at a moment a border stands at a cut or a greater one. Here
the greatest bounds that come from the start and from finds are kept as a list,
for each moment, of a cut for each border.
"""

from takenover.rows import is_left


def led_on(row):
    """Return the cut at which a bound is moved by a row, on to the next moment, and where to."""
    x, y, sure = row
    if is_left(row):
        return y, x
    return (x, x + 1) if sure else (-1, -1)


def led_back(row):
    """Return the cut at which a bound is moved by a row, back to the moment ahead, and where to."""
    x, y, sure = row
    if not is_left(row):
        return x + 1, x
    return (y, y + 1) if sure else (-1, -1)


def moved(leading, cuts):
    """Return cuts with those at the one cut of a leading moved to its other one."""
    start, end = leading
    return [end if cut == start else cut for cut in cuts]


def raised(cuts, others):
    """Return the greater one of two cuts for each border."""
    return [max(cut, other) for cut, other in zip(cuts, others)]


def latest_shown(log, finds):
    """Return for each edition the last moment at which a find shows it, -1 if none does."""
    latest = [-1] * log.offices
    for moment, _, edition in finds:
        latest[edition] = max(latest[edition], moment)
    return latest


def spread(cuts, moment, latest):
    """Return the cuts of a moment, raised where a border stands at the one ahead of it or apart from it."""
    found = [cuts[0]]
    for edition, cut in enumerate(cuts[1:]):
        # An edition that is shown later on must still be held by an office.
        apart = 1 if latest[edition] >= moment else 0
        found.append(max(cut, found[-1] + apart))
    return found


def swept_on(log, cuts, latest):
    """Return the cuts of all moments, raised by those ahead of them."""
    now = spread(cuts[0], 0, latest)
    found = [now]
    for at, row in enumerate(log.rows):
        now = spread(raised(moved(led_on(row), now), cuts[at + 1]), at + 1, latest)
        found.append(now)
    return found


def swept_back(log, cuts, latest):
    """Return the cuts of all moments, raised by those behind them."""
    last = len(log.rows)
    now = spread(cuts[last], last, latest)
    found = [now]
    for at in range(last - 1, -1, -1):
        now = spread(raised(moved(led_back(log.rows[at]), now), cuts[at]), at, latest)
        found.append(now)
    return found[::-1]


def first_bounds(log, finds):
    """Return the cuts of the bounds that come from the start and from finds."""
    cuts = [[0] * (log.offices + 1) for _ in range(len(log.rows) + 1)]
    cuts[0] = list(range(log.offices + 1))
    for moment, office, edition in finds:
        cuts[moment][edition + 1] = max(cuts[moment][edition + 1], office + 1)
    return cuts


def are_denied(cuts, finds):
    """Tell whether a bound is denied by the start or by a find."""
    if any([cut > border for border, cut in enumerate(cuts[0])]):
        return True
    return any([cuts[moment][edition] > office for moment, office, edition in finds])


def least_bounds(log, finds):
    """Return the least cuts of all borders at all moments, None if the finds do not fit."""
    latest = latest_shown(log, finds)
    cuts = []
    further = first_bounds(log, finds)
    while further != cuts:
        cuts = further
        further = swept_back(log, swept_on(log, cuts, latest), latest)
        if are_denied(further, finds):
            return None
    return cuts


def doing_by(log, cuts):
    """Return the doing in which the borders stand at these cuts, those of least_bounds."""
    return tuple([sure or cuts[at] != cuts[at + 1] for at, (_, _, sure) in enumerate(log.rows)])


def doing_in_which(log, finds):
    """Return a doing in which these finds are true, None if there is none."""
    cuts = least_bounds(log, finds)
    return None if cuts is None else doing_by(log, cuts)
