"""Lists of editions at the last moment: whether one can be, and what bars it."""

from takenover.barring import least_offices_barred
from takenover.checks import check_few_offices, check_list, check_no_sure_row
from takenover.extremes import doing_in_which
from takenover.kinds import are_numbers, is_side, is_tuple_of, is_word
from takenover.logs import is_doing, sheets
from takenover.posts import editions_passing, is_post, post, post_price, prices
from takenover.reach import last_sheets

MOST_CLASHING = 6


def shown(editions):
    """Return the pairs (office, edition) of a list."""
    return [(office, edition) for office, edition in enumerate(editions) if edition is not None]


def can_be(log, editions):
    """Tell whether behind some doing each office with an edition in the list holds it."""
    return history(log, editions) is not None


def history(log, editions):
    """Return a doing behind which the list is true, None if there is none."""
    check_list(log, editions)
    return doing_in_which(log, [(len(log.rows), office, edition) for office, edition in shown(editions)])


def is_history(log, editions, thing):
    """Tell whether this is a doing behind which the list is true."""
    check_list(log, editions)
    if not is_doing(log, thing):
        return False
    held = sheets(log, thing)
    return all([held[office] == edition for office, edition in shown(editions)])


def check_barring(log, editions):
    """Raise SureRow or NoList unless bars of the list are promised."""
    check_no_sure_row(log)
    check_list(log, editions)


def fall_in(editions):
    """Return a fall of a list, None if it has none."""
    there = shown(editions)
    for (x, one), (y, other) in zip(there, there[1:]):
        if other < one:
            return "fall", x, y
    return None


def passed_in(log, editions):
    """Return a post that is passed by more unlike editions of a list than it costs, None if there is none."""
    for side in ("left", "right"):
        for first, row in enumerate(prices(log, side)):
            for last, least in enumerate(row):
                if len(editions_passing(side, first, last, editions)) > least:
                    return "post", side, post(log, side, first, last)
    return None


def bar(log, editions):
    """Return what bars a list, None if it can be."""
    check_barring(log, editions)
    return fall_in(editions) or passed_in(log, editions)


def is_fall(editions, x, y):
    """Tell whether these are two offices, the second one farther on, but with a lesser edition in the list."""
    if not are_numbers((x, y), len(editions)) or x >= y:
        return False
    return editions[x] is not None and editions[y] is not None and editions[y] < editions[x]


def is_passed_post(log, editions, side, thing):
    """Tell whether this is a post that is passed by more unlike editions of the list than it costs."""
    if not is_side(side) or not is_post(log, side, thing):
        return False
    return len(editions_passing(side, thing[0], thing[2], editions)) > post_price(log, side, thing)


def is_bar(log, editions, thing):
    """Tell whether this is a fall of the list, or a post that is passed by more than it costs."""
    check_barring(log, editions)
    if not is_tuple_of(thing, 3):
        return False
    word, one, other = thing
    if is_word(word, "fall"):
        return is_fall(editions, one, other)
    return is_word(word, "post") and is_passed_post(log, editions, one, other)


def least_barred(log, editions):
    """Return the least ascending tuple of offices whose editions alone cannot be, None if the list can be."""
    check_list(log, editions)
    return least_offices_barred(log, editions)


def clashing(log):
    """Return the ascending list of the pairs of (office, edition) each of which can be, but not both."""
    check_few_offices(log, MOST_CLASHING)
    alone = {}
    together = {}
    for held in last_sheets(log):
        pairs = shown(held)
        for at, pair in enumerate(pairs):
            alone[pair] = True
            for other in pairs[at + 1:]:
                together[(pair, other)] = True
    found = sorted(alone)
    unlike = [(one, other) for at, one in enumerate(found) for other in found[at + 1:]]
    return [both for both in unlike if both not in together]
