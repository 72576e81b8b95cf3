"""Spans: the times of one office between the rows that may change its sheet.

In a doing an office holds one edition all through a span. Sheets never fall
along the row, and a row copies a neighbour: so some spans hold, in every doing,
no greater edition than others.
"""

from takenover.rows import is_left


class Spans:
    """The spans of a log in whose doings some rows, by their numbers, are not done.

    The first spans have the numbers of their offices, and hold the editions of
    these numbers; each row that may be done begins one more.
    there[moment][office] is the span of an office at a moment. no_greater[span]
    are spans that hold no greater edition than this one, no_lesser[span] spans
    that hold no lesser one. leftward[span] are pairs of a span of the office on
    the left, and the first moment of both together, rightward[span] such of the
    office on the right. (Nothing is noted of the first spans beside one
    another, as what they hold is known.)
    """

    def __init__(self, log, undone):
        self.offices = log.offices
        self.rows = log.rows
        self.no_greater = []
        self.no_lesser = []
        self.leftward = []
        self.rightward = []
        now = [self.added() for _ in range(log.offices)]
        self.there = [tuple(now)]
        for at, row in enumerate(log.rows):
            if at not in undone:
                now[row[0]] = self.begun(row, now, at + 1)
            self.there.append(tuple(now))

    def added(self):
        """Add a span, and return its number."""
        self.no_greater.append([])
        self.no_lesser.append([])
        self.leftward.append([])
        self.rightward.append([])
        return len(self.no_greater) - 1

    def put_below(self, lesser, greater):
        """Note that the one span holds no greater edition than the other one."""
        self.no_greater[greater].append(lesser)
        self.no_lesser[lesser].append(greater)

    def put_beside(self, left, right, moment):
        """Note that spans of two neighbours are there together from this moment on."""
        self.put_below(left, right)
        self.rightward[left].append((right, moment))
        self.leftward[right].append((left, moment))

    def begun(self, row, now, moment):
        """Add the span that a row begins, by the spans ahead of it, and return its number."""
        x, y, sure = row
        span = self.added()
        # What a row copies from the right is no lesser, what it copies from the left no greater.
        if is_left(row):
            self.put_below(now[x], span)
            if sure:
                self.put_below(now[y], span)
        else:
            self.put_below(span, now[x])
            if sure:
                self.put_below(span, now[y])
        if x > 0:
            self.put_beside(now[x - 1], span, moment)
        if x < self.offices - 1:
            self.put_beside(span, now[x + 1], moment)
        return span
