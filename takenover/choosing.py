"""The least sets of numbers that are right, found without trying all sets.

A set is told by a number whose bits are the numbers in it.
"""

from itertools import combinations


def numbers_in(chosen, many):
    """Return the ascending list of the numbers in a set of numbers below so many."""
    return [number for number in range(many) if (chosen >> number) & 1]


def grown(chosen, many, holds):
    """Return a greatest set that has all of this one and of which something holds, as it does of all lesser ones."""
    for number in range(many):
        more = chosen | (1 << number)
        if holds(more):
            chosen = more
    return chosen


def shrunk(chosen, many, holds):
    """Return a least set that is part of this one and of which something holds, as it does of all greater ones."""
    for number in numbers_in(chosen, many):
        fewer = chosen ^ (1 << number)
        if holds(fewer):
            chosen = fewer
    return chosen


def right_choices(many, most, bar_of):
    """Return the first right sets as ascending tuples, at most so many, fewer numbers first, then the least.

    bar_of tells of a set None if it is right, otherwise a pair (mask, bits): no
    set that has just these bits of the mask is right. No set is looked for
    that has all numbers of a right one.
    """
    bars = []
    found = []
    for size in range(many + 1):
        for numbers in combinations(range(many), size):
            chosen = sum([1 << number for number in numbers])
            if any([chosen & mask == bits for mask, bits in bars]):
                continue
            barred = bar_of(chosen)
            if barred is None:
                found.append(numbers)
                barred = (chosen, chosen)
            if len(found) == most:
                return found
            bars.append(barred)
    return found


def least_choice(many, bar_of):
    """Return the least right set as an ascending tuple, fewer numbers first, None if there is none."""
    found = right_choices(many, 1, bar_of)
    return found[0] if found else None
