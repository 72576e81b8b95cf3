"""Logs compared by the lists that can be for them, and shortest logs."""

from math import comb

from takenover.checks import check_few_offices, check_no_sure_row, check_orders
from takenover.errors import OtherOffices
from takenover.logs import log_of_any_size
from takenover.orders import ascending, exchanged_at, orders, places_to
from takenover.posts import prices
from takenover.rows import cut_between, is_left

MOST_COUNTED = 6


def check_compared(one_log, other_log):
    """Raise OtherOffices or SureRow unless the lists of two logs can be compared."""
    if one_log.offices != other_log.offices:
        raise OtherOffices()
    check_no_sure_row(one_log)
    check_no_sure_row(other_log)


def let_alike(one_log, other_log):
    """Tell whether the same lists can be for both logs."""
    check_compared(one_log, other_log)
    return orders(one_log) == orders(other_log)


def widest_list(log, side, first, last):
    """Return a list that can be, whose unlike editions pass a post as many as its least price.

    The editions that pass it are led on, each in one office, wherever a row
    leads one into an office that has none of them.
    """
    held = [edition if (edition >= first) == (side == "left") else None for edition in range(log.offices)]
    for row in log.rows:
        x, y, _ = row
        if is_left(row) == (side == "left") and held[x] is None:
            held[x], held[y] = held[y], None
    return tuple([edition if (office < last) == (side == "left") else None for office, edition in enumerate(held)])


def list_beyond(one_log, other_log):
    """Return a list that can be for the other log, but not for the one, None if there is none."""
    check_compared(one_log, other_log)
    for side in ("left", "right"):
        for first, (ones, others) in enumerate(zip(prices(one_log, side), prices(other_log, side))):
            for last, (one, other) in enumerate(zip(ones, others)):
                if one < other:
                    return widest_list(other_log, side, first, last)
    return None


def lets_all(one_log, other_log):
    """Tell whether each list that can be for the other log can be for the one."""
    return list_beyond(one_log, other_log) is None


def parting(one_log, other_log):
    """Return a list that can be for just one of both logs, None if there is none."""
    found = list_beyond(one_log, other_log)
    return list_beyond(other_log, one_log) if found is None else found


def shortest_of(left, right):
    """Return a log with these orders, no sure rows, and as few rows as can be."""
    rows = [(place, place + 1, False) for place in places_to(left)]
    rows.extend([(place + 1, place, False) for place in places_to(right)])
    return log_of_any_size(len(left), tuple(rows))


def shortest(log):
    """Return a log with the same orders, no sure rows, and as few rows as can be."""
    check_no_sure_row(log)
    left, right = orders(log)
    return shortest_of(left, right)


def log_of(left, right):
    """Return a log with these orders, no sure rows, and as few rows as can be."""
    check_orders(left, right)
    return shortest_of(left, right)


def needless_of(offices, places):
    """Return the list of the exchanges, by their numbers, without which, each alone, the order is the same."""
    order = exchanged_at(ascending(offices), places)
    before = list(ascending(offices))
    found = []
    for at, place in enumerate(places):
        # What exchanges nothing is needless; few others are there, as each turns one more pair.
        if before[place] > before[place + 1]:
            found.append(at)
            continue
        if exchanged_at(tuple(before), places[at + 1:]) == order:
            found.append(at)
        before[place], before[place + 1] = before[place + 1], before[place]
    return found


def needless(log):
    """Return the ascending tuple of the rows without which, each alone, the orders are the same."""
    check_no_sure_row(log)
    found = []
    for left in (True, False):
        numbers = [number for number, row in enumerate(log.rows) if is_left(row) == left]
        places = [cut_between(log.rows[number]) - 1 for number in numbers]
        found.extend([numbers[at] for at in needless_of(log.offices, places)])
    return tuple(sorted(found))


def ways_to(order):
    """Return the number of ways to come to an order by as few exchanges as can be, and how many these are."""
    ways = {order: 1}
    many = 0
    while ascending(len(order)) not in ways:
        ahead = {}
        for behind, number in ways.items():
            for place in range(len(behind) - 1):
                if behind[place] > behind[place + 1]:
                    one = behind[:place] + (behind[place + 1], behind[place]) + behind[place + 2:]
                    ahead[one] = ahead.get(one, 0) + number
        ways = ahead
        many += 1
    return ways[ascending(len(order))], many


def count_shortest(log):
    """Return the number of the logs that shortest could tell."""
    check_no_sure_row(log)
    check_few_offices(log, MOST_COUNTED)
    left, right = orders(log)
    left_ways, left_many = ways_to(left)
    right_ways, right_many = ways_to(right)
    # Left rows and right rows may stand among one another as they like.
    return comb(left_many + right_many, left_many) * left_ways * right_ways
