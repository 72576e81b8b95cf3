"""The least offices whose editions at the last moment cannot be together.

Whenever editions cannot be together, bounds lead from the start or from one of
these editions to a denial (7.2). The border of a bound never falls on its way,
so each edition is needed at most once, and what the ways need can be added up:
the cheapest way of all is found, fewer offices first, then the least ones.
"""

from heapq import heappop, heappush

from takenover.bounds import led_back, led_on

DENIED = -1


class Needs:
    """What ways of bounds need: offices of a list, each at a cost."""

    def __init__(self, log, editions):
        self.log = log
        self.last = len(log.rows)
        self.editions = editions
        self.scale = 1 << log.offices

    def cost_of(self, office):
        """Return the cost of an office.

        Each office costs the scale less a share of its own, the greatest one
        for office 0, and all shares together are less than the scale: so fewer
        offices cost less, and of as many those that come first ascending.
        """
        return self.scale - (self.scale >> (office + 1))

    def offices_of(self, total):
        """Return the ascending tuple of the offices whose costs have this sum."""
        shares = -total % self.scale
        return tuple([office for office in range(self.log.offices) if shares & (self.scale >> (office + 1))])

    def holder(self, edition):
        """Return the least office that has this edition in the list, None if none has."""
        return self.editions.index(edition) if edition in self.editions else None

    def starts(self):
        """Return the bounds that come from the start and from the list, each as (cost, moment, border, cut)."""
        found = [(0, 0, border, border) for border in range(self.log.offices + 1)]
        for office, edition in enumerate(self.editions):
            if edition is not None:
                found.append((self.cost_of(office), self.last, edition + 1, office + 1))
        return found

    def denials(self, moment, border, cut):
        """Return the costs of what denies a bound."""
        if moment == 0 and cut > border:
            return [0]
        office = self.holder(border)
        if moment == self.last and office is not None and cut > office:
            return [self.cost_of(office)]
        return []

    def further(self, moment, border, cut):
        """Return the bounds that come from a bound, each as (cost, moment, border, cut)."""
        found = []
        if border < self.log.offices:
            found.append((0, moment, border + 1, cut))
            office = self.holder(border)
            if office is not None:
                found.append((self.cost_of(office), moment, border + 1, cut + 1))
        if moment < self.last:
            start, end = led_on(self.log.rows[moment])
            found.append((0, moment + 1, border, end if cut == start else cut))
        if moment > 0:
            start, end = led_back(self.log.rows[moment - 1])
            found.append((0, moment - 1, border, end if cut == start else cut))
        return found


def least_offices_barred(log, editions):
    """Return the least ascending tuple of offices whose editions alone cannot be, None if all can be together."""
    needs = Needs(log, editions)
    reached = [[-1] * (log.offices + 1) for _ in range(len(log.rows) + 1)]
    queue = []
    for cost, moment, border, cut in needs.starts():
        heappush(queue, (cost, -cut, moment, border))
    while queue:
        cost, fallen, moment, border = heappop(queue)
        if moment == DENIED:
            return needs.offices_of(cost)
        cut = -fallen
        # A bound of a greater cut that costs no more leads to all that this one leads to.
        if cut <= reached[moment][border]:
            continue
        reached[moment][border] = cut
        for more in needs.denials(moment, border, cut):
            heappush(queue, (cost + more, 0, DENIED, 0))
        for more, at, which, where in needs.further(moment, border, cut):
            if where > reached[at][which]:
                heappush(queue, (cost + more, -where, at, which))
    return None
