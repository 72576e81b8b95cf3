"""What kind of thing an object is, told of any object without an error."""


def is_integer(thing):
    """Tell whether this is an integer; a flag is none."""
    return isinstance(thing, int) and not isinstance(thing, bool)


def is_between(thing, least, most):
    """Tell whether this is an integer from the least to the most."""
    return is_integer(thing) and least <= thing <= most


def is_number(thing, many):
    """Tell whether this is the number of one of so many things."""
    return is_between(thing, 0, many - 1)


def is_word(thing, word):
    """Tell whether this is just this string."""
    return isinstance(thing, str) and thing == word


def is_tuple_of(thing, many):
    """Tell whether this is a tuple of so many things."""
    return isinstance(thing, tuple) and len(thing) == many


def are_numbers(things, many):
    """Tell whether each of these is the number of one of so many things."""
    return all([is_number(thing, many) for thing in things])


def never_falls(numbers):
    """Tell whether no number is less than the one ahead of it."""
    return all([one <= other for one, other in zip(numbers, numbers[1:])])


def are_sheets(thing):
    """Tell whether these can be sheets, of one to twelve offices, as they never fall along the row."""
    if not isinstance(thing, tuple) or not 1 <= len(thing) <= 12:
        return False
    return are_numbers(thing, len(thing)) and never_falls(thing)
