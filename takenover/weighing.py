"""Chances of rows, and fractions of weights, which are chances times the bottoms of the chances of all rows."""

from math import gcd

from takenover.errors import NoChances
from takenover.kinds import is_fraction, is_tuple_of


def check_chances(log, chances):
    """Raise NoChances unless this is a tuple with a fraction from 0 to 1 for each row."""
    if not is_tuple_of(chances, len(log.rows)):
        raise NoChances()
    if not all([is_fraction(each) and 0 <= each[0] <= each[1] for each in chances]):
        raise NoChances()


def whole_weight(log, chances):
    """Return the product of the bottoms of the chances of all rows that are not sure."""
    whole = 1
    for (_, _, sure), (_, bottom) in zip(log.rows, chances):
        if not sure:
            whole *= bottom
    return whole


def fraction(top, bottom):
    """Return the fraction of two integers, the top from 0 on, the bottom from 1 on."""
    common = gcd(top, bottom)
    return top // common, bottom // common
