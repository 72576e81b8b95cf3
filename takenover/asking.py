"""The sheets that can be there at a moment, and the questions that tell them apart."""

from takenover.checks import check_few_offices, check_finds, check_moment
from takenover.counts import counting
from takenover.errors import TooMany
from takenover.kinds import are_numbers, is_integer, is_number, is_tuple_of, is_word
from takenover.tables import doings_through

MOST_OFFICES = 8
MOST_LISTED = 2000
MOST_ASKED = 200


def sheets_of_most(log, finds, moment, most):
    """Return the ascending list of the sheets that can be there at a moment, at most so many."""
    check_finds(log, finds)
    check_moment(log, moment)
    check_few_offices(log, MOST_OFFICES)
    rule = counting(log, finds)
    found = [held for held, many in zip(rule.field.sheets, doings_through(rule, moment)) if many > 0]
    if len(found) > most:
        raise TooMany(most)
    return sorted(found)


def sheets_at(log, finds, moment):
    """Return the ascending list of the sheets that can be there at a moment where the finds are true."""
    return sheets_of_most(log, finds, moment, MOST_LISTED)


class Asking:
    """Questions that tell some sheets apart, whose sets are told by numbers whose bits are the numbers in them."""

    def __init__(self, found):
        self.found = found
        self.offices = len(found[0])
        self.whole = (1 << len(found)) - 1
        self.having = [[0] * self.offices for _ in range(self.offices)]
        for number, held in enumerate(found):
            for office, edition in enumerate(held):
                self.having[office][edition] |= 1 << number
        self.known = {}

    def parts(self, chosen, office):
        """Return the pairs of each edition that an office has in a set of sheets, and the set of those where it has."""
        return [(edition, chosen & those) for edition, those in enumerate(self.having[office]) if chosen & those]

    def worst(self, divided):
        """Return the greatest number of questions that are needed in one of these parts."""
        return max([self.best(part)[0] for _, part in divided])

    def best(self, chosen):
        """Return the least number of questions that are enough for a set of sheets, and the office to ask for first.

        The number is 0, and the office None, where there are only these sheets.
        """
        if chosen not in self.known:
            found = (0, None)
            if chosen & (chosen - 1):
                by_office = [(office, self.parts(chosen, office)) for office in range(self.offices)]
                found = min([(1 + self.worst(divided), office) for office, divided in by_office if len(divided) > 1])
            self.known[chosen] = found
        return self.known[chosen]

    def tree(self, chosen):
        """Return a tree for a set of sheets with which the least number of questions is enough."""
        _, office = self.best(chosen)
        if office is None:
            return "told", self.found[chosen.bit_length() - 1]
        return "ask", office, {edition: self.tree(part) for edition, part in self.parts(chosen, office)}

    def is_told(self, chosen, thing):
        """Tell whether these are the only sheets of a set."""
        if not is_tuple_of(thing, self.offices) or not are_numbers(thing, self.offices):
            return False
        return chosen == 1 << (chosen.bit_length() - 1) and thing == self.found[chosen.bit_length() - 1]

    def is_tree(self, chosen, asked, thing):
        """Tell whether this is a tree for a set of sheets, where these offices were asked for already."""
        if is_tuple_of(thing, 2):
            return is_word(thing[0], "told") and self.is_told(chosen, thing[1])
        if not is_tuple_of(thing, 3) or not is_word(thing[0], "ask"):
            return False
        _, office, trees = thing
        if not is_number(office, self.offices) or office in asked or not isinstance(trees, dict):
            return False
        divided = self.parts(chosen, office)
        if len(trees) != len(divided) or not all([is_integer(edition) for edition in trees]):
            return False
        further = asked + (office,)
        return all([edition in trees and self.is_tree(part, further, trees[edition]) for edition, part in divided])


def asking_about(log, finds, moment):
    """Return what tells the questions about the sheets that can be there at a moment, None if none can be."""
    found = sheets_of_most(log, finds, moment, MOST_ASKED)
    return Asking(found) if found else None


def questions(log, finds, moment):
    """Return the least number of questions that are enough, whatever is answered, None if no sheets can be there."""
    asking = asking_about(log, finds, moment)
    return None if asking is None else asking.best(asking.whole)[0]


def question_tree(log, finds, moment):
    """Return a tree with which the least number of questions is enough, None if no sheets can be there."""
    asking = asking_about(log, finds, moment)
    return None if asking is None else asking.tree(asking.whole)


def is_question_tree(log, finds, moment, thing):
    """Tell whether this is a tree that tells which sheets are there at a moment."""
    asking = asking_about(log, finds, moment)
    return asking is not None and asking.is_tree(asking.whole, (), thing)
