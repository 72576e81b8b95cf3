"""Which editions an office can hold in the doings in which finds are true.

An edition can be held in a span exactly if its sheet can come there, from its
first office on, copied over done rows, through spans alone of which it is
neither below the least nor above the greatest edition. For then the sheets left
of its way may go as in the doing of all greatest editions, those right of it as
in the doing of all least ones, and no chain of bounds bars what is left.
"""

from takenover.extremes import greatest_editions, least_editions
from takenover.spans import Spans


class Holding:
    """What the spans of a log can hold in the doings in which finds are true."""

    def __init__(self, spans, finds):
        self.spans = spans
        self.greatest = greatest_editions(spans, finds)
        self.possible = self.greatest is not None
        self.least = least_editions(spans, finds) if self.possible else None

    def is_within(self, span, edition):
        """Tell whether an edition is neither below the least nor above the greatest one of a span."""
        return self.possible and self.least[span] <= edition <= self.greatest[span]

    def is_sure(self, span, edition):
        """Tell whether a span holds this edition in all of the doings, where there are some."""
        return self.possible and self.least[span] == edition == self.greatest[span]

    def holders(self, edition):
        """Return for each span whether it can hold an edition."""
        there = self.spans.there
        found = [False] * len(self.spans.no_greater)
        found[edition] = self.is_within(edition, edition)
        for (x, y, sure), ahead, behind in zip(self.spans.rows, there, there[1:]):
            span = behind[x]
            if span != ahead[x]:
                came = found[ahead[y]] or (found[ahead[x]] and not sure)
                found[span] = came and self.is_within(span, edition)
        return found

    def editions_at(self, moment, office):
        """Return the ascending tuple of the editions that an office can hold at a moment."""
        span = self.spans.there[moment][office]
        likely = [edition for edition in range(self.spans.offices) if self.is_within(span, edition)]
        return tuple([edition for edition in likely if self.holders(edition)[span]])

    def offices_at(self, moment, edition):
        """Return the ascending tuple of the offices that can hold an edition at a moment."""
        found = self.holders(edition)
        return tuple([office for office, span in enumerate(self.spans.there[moment]) if found[span]])

    def moments_held(self, office, edition):
        """Return the ascending list of the moments at which an office can hold an edition."""
        found = self.holders(edition)
        return [moment for moment, now in enumerate(self.spans.there) if found[now[office]]]


def held_between(log, finds):
    """Return what can be held in the doings of a log in which finds are true."""
    return Holding(Spans(log, ()), finds)
