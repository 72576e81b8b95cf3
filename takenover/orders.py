"""The pair of orders by which the prices of all posts of a log are told."""

from math import factorial

from takenover.checks import check_cut, check_order, check_orders, check_side
from takenover.errors import NoNumber
from takenover.kinds import is_between, is_number
from takenover.rows import cut_between, is_left

MOST_TIMES = 10 ** 30


def ascending(length):
    """Return the order of this length that has nothing turned, that of no rows."""
    return tuple(range(length))


def exchanged_at(one, places):
    """Return the order that comes of another one by exchanges.

    Each place is that of the first of two neighbours, which are exchanged if
    the second one is the greater one.
    """
    order = list(one)
    for place in places:
        if order[place] < order[place + 1]:
            order[place], order[place + 1] = order[place + 1], order[place]
    return tuple(order)


def places_of(log, left):
    """Return the places of the exchanges that the left rows, or the right rows, of a log make."""
    return [cut_between(row) - 1 for row in log.rows if is_left(row) == left]


def orders(log):
    """Return the pair of the left and the right order of a log."""
    one = ascending(log.offices)
    return exchanged_at(one, places_of(log, True)), exchanged_at(one, places_of(log, False))


def price_by(order, side, first, last):
    """Return the least price of a post that begins and ends so, by the order of its side."""
    check_order(order)
    check_side(side)
    check_cut(len(order), first)
    check_cut(len(order), last)
    if side == "left":
        return len([number for number in order[:last] if number >= first])
    return len([number for number in order[last:] if number < first])


def places_to(order):
    """Return as few places as can be whose exchanges lead from the ascending order to this one."""
    left = list(order)
    found = []
    for end in range(len(left) - 1, 0, -1):
        for place in range(end):
            if left[place] > left[place + 1]:
                left[place], left[place + 1] = left[place + 1], left[place]
                found.append(place)
    return found[::-1]


def order_behind(one, other):
    """Return the order of a log with another one behind it, by the orders of both."""
    check_orders(one, other)
    return exchanged_at(one, places_to(other))


def orders_until_rest(one):
    """Return the orders of a log that comes 0, 1, 2 .. times, up to the one that stays the same."""
    places = places_to(one)
    found = [ascending(len(one))]
    following = one
    while following != found[-1]:
        found.append(following)
        following = exchanged_at(following, places)
    return found


def order_often(one, times):
    """Return the order of a log that comes so often, by its order."""
    check_order(one)
    if not is_between(times, 0, MOST_TIMES):
        raise NoNumber()
    found = orders_until_rest(one)
    return found[min(times, len(found) - 1)]


def comes_to_rest(log):
    """Return the least number of times from which on the orders of the repeated log stay the same."""
    return max([len(orders_until_rest(order)) - 1 for order in orders(log)])


def order_number(order):
    """Return the number of an order among all of its length, ascending."""
    check_order(order)
    number = 0
    for place, one in enumerate(order):
        behind = order[place + 1:]
        # Each place has as many choices as there are numbers left for it.
        number = number * (len(behind) + 1) + len([other for other in behind if other < one])
    return number


def order_at(length, number):
    """Return the order of this length with this number."""
    if not is_between(length, 1, 12):
        raise NoNumber()
    if not is_number(number, factorial(length)):
        raise NoNumber()
    choices = []
    for many in range(1, length + 1):
        number, choice = divmod(number, many)
        choices.append(choice)
    left = list(range(length))
    order = []
    for choice in choices[::-1]:
        order.append(left.pop(choice))
    return tuple(order)


def turned(order):
    """Return the pairs of a lesser and a greater number of which the greater one stands ahead."""
    check_order(order)
    found = []
    for place, one in enumerate(order):
        found.extend([(other, one) for other in order[place + 1:] if other < one])
    return tuple(sorted(found))
