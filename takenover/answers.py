"""Answers of a desk about a log and its finds, as strings."""

from takenover.counts import count_doings
from takenover.dated import fit
from takenover.lists import can_be
from takenover.orders import orders
from takenover.posts import price
from takenover.telling import editions_at, row_told, told
from takenover.texts import log_text


def yes_or_no(flag):
    """Return the word for a flag."""
    return "yes" if flag else "no"


def joined_words(words):
    """Return words with blanks between, or none for no words."""
    return " ".join(words) if words else "none"


def text_shown(log, finds, values):
    """Return the text of a log."""
    return log_text(log).replace("\n", "|")


def finds_fit(log, finds, values):
    """Return whether the finds fit."""
    return yes_or_no(fit(log, finds))


def editions_held(log, finds, values):
    """Return which editions an office can hold at a moment."""
    moment, office = values
    return joined_words([str(edition) for edition in editions_at(log, finds, moment, office)])


def find_told(log, finds, values):
    """Return the word for a further find."""
    return told(log, finds, values)


def row_done(log, finds, values):
    """Return the word for a row."""
    return row_told(log, finds, values[0])


def doings_counted(log, finds, values):
    """Return the number of the doings in which the finds are true."""
    return str(count_doings(log, finds))


def price_of_post(log, finds, values):
    """Return the least price of a post."""
    side, first, last = values
    return str(price(log, side, first, last))


def list_can_be(log, finds, values):
    """Return whether a list can be for the log alone."""
    return yes_or_no(can_be(log, values[0]))


def both_orders(log, finds, values):
    """Return the left and the right order of the log."""
    return " ".join([",".join([str(number) for number in order]) for order in orders(log)])


def all_finds(log, finds, values):
    """Return the finds."""
    return joined_words([f"{moment}:{office}:{edition}" for moment, office, edition in finds])


ANSWERS = {
    "show": text_shown,
    "fits": finds_fit,
    "holds": editions_held,
    "told": find_told,
    "done": row_done,
    "count": doings_counted,
    "price": price_of_post,
    "list": list_can_be,
    "orders": both_orders,
    "finds": all_finds,
}


def answer(word, log, finds, values):
    """Return the answer to a line with this first word and these values."""
    action = ANSWERS[word]
    return action(log, finds, values)
