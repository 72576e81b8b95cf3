"""Strangers, who tell of each office at some moments what it held, and whether that can be."""

from takenover.errors import NoAnswer, NoMoments
from takenover.extremes import greatest_editions
from takenover.kinds import are_numbers, ascends, is_number
from takenover.spans import Spans


def check_moments(log, moments):
    """Raise NoMoments unless this is an ascending tuple of moments of the log."""
    if not isinstance(moments, tuple) or not are_numbers(moments, len(log.rows) + 1) or not ascends(moments):
        raise NoMoments()


def finds_of(log, stranger, moments):
    """Return the list of the finds that a stranger tells of all offices at these moments."""
    check_moments(log, moments)
    found = []
    for moment in moments:
        for office in range(log.offices):
            edition = stranger(moment, office)
            if not is_number(edition, log.offices):
                raise NoAnswer(moment, office)
            found.append((moment, office, edition))
    return found


def refuted(log, stranger, moments):
    """Return None if what a stranger tells fits, otherwise the least number of finds, from the first, that do not."""
    finds = finds_of(log, stranger, moments)
    spans = Spans(log, ())
    if greatest_editions(spans, finds) is not None:
        return None
    fitting = 0
    clashing = len(finds)
    while clashing - fitting > 1:
        middle = (fitting + clashing) // 2
        if greatest_editions(spans, finds[:middle]) is None:
            clashing = middle
        else:
            fitting = middle
    return clashing
