"""Hands: whose rows must have been done for finds to be true."""

from takenover.checks import check_finds
from takenover.choosing import grown, numbers_in, right_choices
from takenover.errors import NoHands
from takenover.extremes import greatest_editions
from takenover.kinds import are_numbers, ascends, is_tuple_of
from takenover.spans import Spans

MANY_HANDS = 12


def check_hands(log, hands):
    """Raise NoHands unless this tells for each row whose it is."""
    if not is_tuple_of(hands, len(log.rows)) or not are_numbers(hands, MANY_HANDS):
        raise NoHands()


def check_lot(lot):
    """Raise NoHands unless this is an ascending tuple of hands."""
    if not isinstance(lot, tuple) or not are_numbers(lot, MANY_HANDS) or not ascends(lot):
        raise NoHands()


class Hands:
    """Whose rows the rows of a log are, and finds that some of the hands could make true."""

    def __init__(self, log, finds, hands):
        self.log = log
        self.finds = finds
        self.hands = hands
        self.there = sorted(set(hands))
        self.sure = sorted(set([hand for hand, row in zip(hands, log.rows) if row[2]]))
        self.loose = [hand for hand in self.there if hand not in self.sure]

    def could(self, lot):
        """Tell whether the finds are true in some doing in which only rows of these hands are done."""
        undone = {at: True for at, hand in enumerate(self.hands) if hand not in lot}
        if any([self.log.rows[at][2] for at in undone]):
            return False
        return greatest_editions(Spans(self.log, undone), self.finds) is not None

    def lot_of(self, numbers):
        """Return the lot of the hands of all sure rows, and of some others, by their numbers among these."""
        return tuple(sorted(self.sure + [self.loose[number] for number in numbers]))


def could_do(log, finds, hands, lot):
    """Tell whether the finds are true in some doing in which only rows of these hands are done."""
    check_finds(log, finds)
    check_hands(log, hands)
    check_lot(lot)
    return Hands(log, finds, hands).could(lot)


def least_hands(log, finds, hands):
    """Return the ascending list of the lots of hands that could do it, but not without any one of them."""
    check_finds(log, finds)
    check_hands(log, hands)
    kept = Hands(log, finds, hands)
    many = len(kept.loose)
    whole = (1 << many) - 1

    def could_not(chosen):
        """Tell whether the hands in a set, with those of the sure rows, could not do it."""
        return not kept.could(kept.lot_of(numbers_in(chosen, many)))

    def bar_of(chosen):
        """Tell what bars a set: others, one of which would be needed."""
        return (whole ^ grown(chosen, many, could_not), 0) if could_not(chosen) else None

    return sorted([kept.lot_of(numbers) for numbers in right_choices(many, whole + 1, bar_of)])


def surely_hands(log, finds, hands):
    """Return the ascending tuple of the hands without which it could not be done, None if it could not at all."""
    check_finds(log, finds)
    check_hands(log, hands)
    kept = Hands(log, finds, hands)
    if not kept.could(kept.there):
        return None
    return tuple([hand for hand in kept.there if not kept.could([other for other in kept.there if other != hand])])
