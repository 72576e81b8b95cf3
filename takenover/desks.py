"""A desk: logs and finds that are kept under names, by lines."""

from takenover.answers import answer, joined_words
from takenover.checks import MOST_FINDS, check_find
from takenover.errors import NoName, NothingDone, TooMany
from takenover.lines import parts_of
from takenover.reading import read_log


class Desk:
    """Logs and their finds under names, led and asked by lines."""

    def __init__(self):
        self.shelf = {}
        self.elder = []

    def tell(self, line):
        """Do a line, and return what it answers."""
        word, name, values = parts_of(line)
        if word == "names":
            return joined_words(sorted(self.shelf))
        if word == "undo":
            return self.undo()
        if word == "log":
            return self.change(name, (read_log(values[0].replace("|", "\n")), ()))
        if name not in self.shelf:
            raise NoName(name)
        if word == "drop":
            return self.change(name, None)
        log, finds = self.shelf[name]
        if word == "find":
            check_find(log, values)
            if len(finds) >= MOST_FINDS:
                raise TooMany(MOST_FINDS)
            return self.change(name, (log, finds + (values,)))
        return answer(word, log, finds, values)

    def keep(self, name, pair):
        """Keep a log and its finds under a name, nothing for None."""
        if pair is None:
            del self.shelf[name]
        else:
            self.shelf[name] = pair

    def change(self, name, pair):
        """Keep a log and its finds under a name, so that this can be taken back."""
        self.elder.append((name, self.shelf.get(name)))
        self.keep(name, pair)
        return "ok"

    def undo(self):
        """Take back the last line that changed something and is not taken back."""
        if not self.elder:
            raise NothingDone()
        name, pair = self.elder.pop()
        self.keep(name, pair)
        return "ok"

    def undoable(self):
        """Return how many lines can be taken back."""
        return len(self.elder)
