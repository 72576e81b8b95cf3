"""An archive: a log and finds that are kept, changed and put back."""

from takenover.chains import chain
from takenover.changes import with_row, without
from takenover.checks import MOST_FINDS, check_find
from takenover.dated import doing_for, fit
from takenover.errors import NoFind, NoNumber, NothingDone, TooMany
from takenover.kinds import is_between, is_number
from takenover.logs import Log
from takenover.rows import MOST_OFFICES, MOST_ROWS
from takenover.telling import editions_at


class Archive:
    """A log, at first without rows, and finds; what was done with them can be taken back."""

    def __init__(self, offices):
        if not is_between(offices, 1, MOST_OFFICES):
            raise NoNumber()
        self.log = Log(offices, ())
        self.finds = ()
        self.past = []

    def change(self, log, finds):
        """Keep another log and other finds, and what was kept so far among what can be put back."""
        self.past.append((self.log, self.finds))
        self.log = log
        self.finds = finds

    def put(self, at, row):
        """Put a row ahead of the one with this number, or at the end; finds stay behind the same rows."""
        log = with_row(self.log, at, row)
        if len(self.log.rows) >= MOST_ROWS:
            raise TooMany(MOST_ROWS)
        self.change(log, tuple([(moment + 1 if moment > at else moment, office, edition)
                                for moment, office, edition in self.finds]))

    def strike(self, number):
        """Take a row out; finds stay behind the same rows."""
        log = without(self.log, number)
        self.change(log, tuple([(moment - 1 if moment > number else moment, office, edition)
                                for moment, office, edition in self.finds]))

    def show(self, find):
        """Put a find behind the others."""
        check_find(self.log, find)
        if len(self.finds) >= MOST_FINDS:
            raise TooMany(MOST_FINDS)
        self.change(self.log, self.finds + (find,))

    def doubt(self, number):
        """Take a find out."""
        if not is_number(number, len(self.finds)):
            raise NoFind()
        self.change(self.log, self.finds[:number] + self.finds[number + 1:])

    def now(self):
        """Return the pair of the log and the finds."""
        return self.log, self.finds

    def fits(self):
        """Tell whether the finds fit."""
        return fit(self.log, self.finds)

    def paper(self):
        """Return the pair of a word and a doing in which the finds are true, or a chain that bars them."""
        doing = doing_for(self.log, self.finds)
        return ("chain", chain(self.log, self.finds)) if doing is None else ("doing", doing)

    def can_hold(self, moment, office):
        """Return the ascending tuple of the editions that an office can hold at a moment."""
        return editions_at(self.log, self.finds, moment, office)

    def surely_at(self, moment, office):
        """Return the only edition that an office can hold at a moment, None if there are none or several."""
        editions = editions_at(self.log, self.finds, moment, office)
        return editions[0] if len(editions) == 1 else None

    def back(self):
        """Take back the last put, strike, show or doubt that is not taken back."""
        if not self.past:
            raise NothingDone()
        self.log, self.finds = self.past.pop()

    def steps(self):
        """Return how many of them can be taken back."""
        return len(self.past)

    def copy(self):
        """Return another archive that goes on apart, and can go back likewise."""
        other = Archive(self.log.offices)
        other.log = self.log
        other.finds = self.finds
        other.past = list(self.past)
        return other

    def trying(self, action):
        """Return what a function returns that is called with the archive, and put everything back."""
        log = self.log
        finds = self.finds
        past = list(self.past)
        try:
            return action(self)
        finally:
            self.log, self.finds, self.past = log, finds, past
