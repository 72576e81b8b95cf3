"""Sets of finds: which of them fit, and which of them leave a further find open."""

from takenover.choosing import grown, least_choice, numbers_in, shrunk
from takenover.extremes import greatest_editions
from takenover.holding import Holding
from takenover.spans import Spans


class FindSets:
    """Sets of some finds, each told by a number whose bits are the numbers of the finds in it."""

    def __init__(self, log, finds):
        self.spans = Spans(log, ())
        self.finds = list(finds)
        self.many = len(self.finds)
        self.whole = (1 << self.many) - 1

    def those(self, chosen):
        """Return the list of the finds in a set."""
        return [self.finds[number] for number in numbers_in(chosen, self.many)]

    def fit(self, chosen):
        """Tell whether the finds in a set fit."""
        return greatest_editions(self.spans, self.those(chosen)) is not None

    def leaves_untrue(self, chosen, find):
        """Tell whether a further find is untrue in some doing in which those in a set are true."""
        moment, office, edition = find
        held = Holding(self.spans, self.those(chosen))
        return held.possible and not held.is_sure(self.spans.there[moment][office], edition)

    def least_clash_in(self, chosen):
        """Return a set of finds that do not fit, but do without any one of them, in one that does not fit."""
        return shrunk(chosen, self.many, lambda fewer: not self.fit(fewer))

    def rest_of_fitting(self, chosen):
        """Return the set of the finds left out by a greatest set that fits and has all of this one."""
        return self.whole ^ grown(chosen, self.many, lambda more: self.fit(more))

    def rest_of_leaving(self, chosen, find):
        """Return the set of the finds left out by a greatest set that leaves a further find untrue."""
        return self.whole ^ grown(chosen, self.many, lambda more: self.leaves_untrue(more, find))


def least_doubted(sets):
    """Return the least numbers of finds without which the others fit."""
    def bar_of(dropped):
        """Tell what bars these numbers: a clash that is met by none of them."""
        kept = sets.whole ^ dropped
        return None if sets.fit(kept) else (sets.least_clash_in(kept), 0)
    return least_choice(sets.many, bar_of)


def least_clash(sets):
    """Return the least numbers of finds that do not fit, None if all fit."""
    def bar_of(chosen):
        """Tell what bars these numbers: others that would be needed for a clash."""
        return (sets.rest_of_fitting(chosen), 0) if sets.fit(chosen) else None
    return least_choice(sets.many, bar_of)


def least_reason(sets, find):
    """Return the least numbers of finds that fit and make a further find surely true, None if there are none."""
    def bar_of(chosen):
        """Tell what bars these numbers: a clash in them, or others that would be needed."""
        if not sets.fit(chosen):
            clashing = sets.least_clash_in(chosen)
            return clashing, clashing
        if sets.leaves_untrue(chosen, find):
            return sets.rest_of_leaving(chosen, find), 0
        return None
    return least_choice(sets.many, bar_of)
