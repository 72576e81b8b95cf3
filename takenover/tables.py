"""Tables: for all sheets at a moment, what is told of the doings of the rows behind it."""

from math import isqrt


def flags_by(field, finds):
    """Return a dict from each moment of finds to flags, True for the sheets in which all of them are true."""
    found = {}
    for moment, office, edition in finds:
        flags = field.holding(office, edition)
        ahead = found.get(moment, flags)
        found[moment] = [flag and other for flag, other in zip(flags, ahead)]
    return found


class CountRule:
    """How many doings of the rows behind lead through sheets with flags alone.

    flags is a dict with the flags of all sheets for some moments; end is what
    is told of sheets at the last moment, barred what is told of those without a
    flag. Rules that tell other things join what is told of both ways otherwise.
    """

    def __init__(self, field, flags, end, barred):
        self.field = field
        self.flags = flags
        self.end = end
        self.barred = barred

    def joined(self, at, undone, done):
        """Return the table ahead of a row, not a sure one, by what is told if it is not done and if it is."""
        return [one + other for one, other in zip(undone, done)]

    def forced(self, at, done):
        """Return the table ahead of a sure row by what is told if it is done."""
        return done

    def kept(self, moment, table):
        """Return a table with what is told of sheets without a flag."""
        if moment not in self.flags:
            return table
        return [told if flag else self.barred for told, flag in zip(table, self.flags[moment])]

    def last_table(self):
        """Return the table of the last moment."""
        return self.kept(len(self.field.log.rows), [self.end] * len(self.field.sheets))

    def table_ahead(self, at, table):
        """Return the table ahead of the row with this number, by the one behind it."""
        done = [table[to] for to in self.field.lead(at)]
        if self.field.log.rows[at][2]:
            return self.kept(at, self.forced(at, done))
        return self.kept(at, self.joined(at, table, done))

    def table_at(self, moment):
        """Return the table of a moment."""
        table = self.last_table()
        for at in range(len(self.field.log.rows) - 1, moment - 1, -1):
            table = self.table_ahead(at, table)
        return table


def count_rule(field, flags):
    """Return the rule that counts doings."""
    return CountRule(field, flags, 1, 0)


class FewestRule(CountRule):
    """How few of the rows behind must be done, more than there are if no doing leads through flags alone."""

    def joined(self, at, undone, done):
        """Return the table ahead of a row, not a sure one, by what is told if it is not done and if it is."""
        return [one if one <= other else other + 1 for one, other in zip(undone, done)]

    def forced(self, at, done):
        """Return the table ahead of a sure row by what is told if it is done."""
        return [other + 1 for other in done]


class ChanceRule(CountRule):
    """The chance that the rows behind lead through sheets with flags alone, times the bottoms of their chances."""

    def __init__(self, field, flags, chances):
        CountRule.__init__(self, field, flags, 1, 0)
        self.chances = chances

    def joined(self, at, undone, done):
        """Return the table ahead of a row, not a sure one, by what is told if it is not done and if it is."""
        top, bottom = self.chances[at]
        return [(bottom - top) * one + top * other for one, other in zip(undone, done)]


class LikeliestRule(CountRule):
    """The greatest chance of a doing of the rows behind through flags alone, times the bottoms, -1 if there is none."""

    def __init__(self, field, flags, chances):
        CountRule.__init__(self, field, flags, 1, -1)
        self.chances = chances

    def joined(self, at, undone, done):
        """Return the table ahead of a row, not a sure one, by what is told if it is not done and if it is."""
        top, bottom = self.chances[at]
        ones = [-1 if one < 0 else (bottom - top) * one for one in undone]
        others = [-1 if other < 0 else top * other for other in done]
        return [max(one, other) for one, other in zip(ones, others)]


class Tables:
    """The tables of a rule, to be asked for from the first moment on.

    Of many rows few tables are kept: every so many, and those of the block of
    moments that is asked for.
    """

    def __init__(self, rule):
        self.rule = rule
        self.last = len(rule.field.log.rows)
        self.width = isqrt(self.last) + 1
        self.marks = {}
        table = rule.last_table()
        for moment in range(self.last, -1, -1):
            if moment < self.last:
                table = rule.table_ahead(moment, table)
            if moment % self.width == 0 or moment == self.last:
                self.marks[moment] = table
        self.start = 0
        self.block = self.tables_from(0)

    def tables_from(self, start):
        """Return the list of the tables of a block of moments."""
        end = min(start + self.width, self.last)
        found = [self.marks[end]]
        for at in range(end - 1, start - 1, -1):
            found.append(self.rule.table_ahead(at, found[-1]))
        return found[::-1]

    def at_moment(self, moment):
        """Return the table of a moment."""
        if not self.start <= moment < self.start + len(self.block):
            self.start = moment - moment % self.width
            self.block = self.tables_from(self.start)
        return self.block[moment - self.start]


def counts_to(field, flags, moment):
    """Return how many doings of the rows ahead lead to each sheets at a moment, through flags alone."""
    counts = [1 if number == 0 else 0 for number in range(len(field.sheets))]
    for at in range(moment):
        if at in flags:
            counts = [count if flag else 0 for count, flag in zip(counts, flags[at])]
        behind = [0] * len(counts) if field.log.rows[at][2] else list(counts)
        for count, to in zip(counts, field.lead(at)):
            behind[to] += count
        counts = behind
    return counts


def doings_through(rule, moment):
    """Return how many of the doings that a rule counts lead through each sheets at a moment."""
    ahead = counts_to(rule.field, rule.flags, moment)
    return [one * other for one, other in zip(ahead, rule.table_at(moment))]
