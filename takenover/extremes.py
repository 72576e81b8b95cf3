"""The greatest and the least editions of all spans in the doings in which finds are true.

What a bound tells of a border, it tells of an office, too: where border a
stands at cut c or a greater one, office c - 1 holds no edition from a on. So
the least cuts of all borders are the greatest editions of all offices, and are
there in one doing; the greatest cuts likewise are the least editions.
"""

from takenover.spans import Spans


def latest_shown(offices, finds):
    """Return for each edition the last moment at which a find shows it, -1 if none does."""
    latest = [-1] * offices
    for moment, _, edition in finds:
        latest[edition] = max(latest[edition], moment)
    return latest


def later_shown(latest, edition):
    """Return the pairs (last moment, edition) of the editions above this one that are shown longer than those between.

    The first one that is shown at a moment or later on is the next edition
    above this one that an office must hold then.
    """
    found = []
    longest = -1
    for other in range(edition + 1, len(latest)):
        if latest[other] > longest:
            longest = latest[other]
            found.append((longest, other))
    return found


def settled(near, apart, most, latest):
    """Return the greatest editions of all spans, at most those of some pairs (span, edition).

    near[span] holds no greater edition than the span; apart[span] are the
    neighbours on the right, which hold at most the next edition that is shown
    then or later on. Whatever follows from an edition is no lesser, so that the
    least editions are settled first.
    """
    last = len(latest) - 1
    found = [last] * len(near)
    waiting = [[] for _ in latest]
    for span, edition in most:
        waiting[edition].append(span)
    for edition in range(last):
        further = later_shown(latest, edition)
        queue = waiting[edition]
        while queue:
            span = queue.pop()
            if found[span] <= edition:
                continue
            found[span] = edition
            queue.extend([other for other in near[span] if found[other] > edition])
            if further:
                for other, moment in apart[span]:
                    following = [shown for until, shown in further if until >= moment]
                    if following and following[0] < found[other]:
                        waiting[following[0]].append(other)
    return found


def shown_on(spans, finds):
    """Return the pairs (span, edition) that the start and finds tell."""
    first = [(office, office) for office in range(spans.offices)]
    return first + [(spans.there[moment][office], edition) for moment, office, edition in finds]


def greatest_editions(spans, finds):
    """Return the greatest editions of all spans, None if the finds do not fit."""
    shown = shown_on(spans, finds)
    found = settled(spans.no_greater, spans.rightward, shown, latest_shown(spans.offices, finds))
    return None if any([found[span] < edition for span, edition in shown]) else found


def least_editions(spans, finds):
    """Return the least editions of all spans, None if the finds do not fit."""
    last = spans.offices - 1
    shown = [(span, last - edition) for span, edition in shown_on(spans, finds)]
    found = settled(spans.no_lesser, spans.leftward, shown, latest_shown(spans.offices, finds)[::-1])
    if any([found[span] < edition for span, edition in shown]):
        return None
    return [last - edition for edition in found]


def doing_by(spans, editions):
    """Return the doing in which the spans hold these editions, the greatest or the least ones."""
    found = []
    for row, ahead, behind in zip(spans.rows, spans.there, spans.there[1:]):
        x, _, sure = row
        found.append(sure or editions[ahead[x]] != editions[behind[x]])
    return tuple(found)


def sheets_by(spans, editions):
    """Return the sheets at all moments if the spans hold these editions."""
    return [tuple([editions[span] for span in now]) for now in spans.there]


def doing_in_which(log, finds):
    """Return a doing in which these finds are true, None if there is none."""
    spans = Spans(log, ())
    editions = greatest_editions(spans, finds)
    return None if editions is None else doing_by(spans, editions)
