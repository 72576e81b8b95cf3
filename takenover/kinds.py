"""What kind of thing an object is, told of any object without an error."""

from math import gcd


def is_integer(thing):
    """Tell whether this is an integer; a flag is none."""
    return isinstance(thing, int) and not isinstance(thing, bool)


def is_between(thing, least, most):
    """Tell whether this is an integer from the least to the most."""
    return is_integer(thing) and least <= thing <= most


def is_number(thing, many):
    """Tell whether this is the number of one of so many things."""
    return is_between(thing, 0, many - 1)


def is_word(thing, word):
    """Tell whether this is just this string."""
    return isinstance(thing, str) and thing == word


def is_tuple_of(thing, many):
    """Tell whether this is a tuple of so many things."""
    return isinstance(thing, tuple) and len(thing) == many


def are_numbers(things, many):
    """Tell whether each of these is the number of one of so many things."""
    return all([is_number(thing, many) for thing in things])


def never_falls(numbers):
    """Tell whether no number is less than the one ahead of it."""
    return all([one <= other for one, other in zip(numbers, numbers[1:])])


def ascends(things):
    """Tell whether each of these, all of one kind, is greater than the one ahead of it."""
    return all([one < other for one, other in zip(things, things[1:])])


def are_sheets(thing):
    """Tell whether these can be sheets, of one to twelve offices, as they never fall along the row."""
    if not isinstance(thing, tuple) or not 1 <= len(thing) <= 12:
        return False
    return are_numbers(thing, len(thing)) and never_falls(thing)


def is_side(thing):
    """Tell whether this is a side of posts."""
    return is_word(thing, "left") or is_word(thing, "right")


def is_order(thing):
    """Tell whether this is a tuple of all numbers below its length, of 1 to 12."""
    if not isinstance(thing, tuple) or not 1 <= len(thing) <= 12:
        return False
    return are_numbers(thing, len(thing)) and len(set(thing)) == len(thing)


def is_list(log, thing):
    """Tell whether this has, for each office of the log, an edition or None."""
    if not is_tuple_of(thing, log.offices):
        return False
    return are_numbers([edition for edition in thing if edition is not None], log.offices)


def is_find(log, thing):
    """Tell whether this is a find of the log: a moment, an office and an edition."""
    if not is_tuple_of(thing, 3):
        return False
    return is_number(thing[0], len(log.rows) + 1) and are_numbers(thing[1:], log.offices)


def are_finds(log, thing, most):
    """Tell whether this is a list or tuple of at most so many finds of the log."""
    if not isinstance(thing, (list, tuple)) or len(thing) > most:
        return False
    return all([is_find(log, find) for find in thing])


def is_fraction(thing):
    """Tell whether this is a pair (top, bottom) of integers without a common divisor above 1, bottom from 1 on."""
    if not is_tuple_of(thing, 2):
        return False
    top, bottom = thing
    return is_integer(top) and is_integer(bottom) and bottom >= 1 and gcd(top, bottom) == 1
