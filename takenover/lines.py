"""Lines of a desk: their forms, and what they name."""

from takenover.errors import NoLine
from takenover.kinds import is_side
from takenover.numerals import is_numeral, is_written_in

LETTERS = "abcdefghijklmnopqrstuvwxyz"
LONGEST_NAME = 8

# What stands behind NAME in the lines that have no TEXT.
FORMS = {
    "find": ("number", "number", "number"),
    "drop": (),
    "show": (),
    "fits": (),
    "holds": ("number", "number"),
    "told": ("number", "number", "number"),
    "done": ("number",),
    "count": (),
    "price": ("side", "number", "number"),
    "list": ("list",),
    "orders": (),
    "finds": (),
}


def is_name(word):
    """Tell whether this is a name: few letters from a to z."""
    return 1 <= len(word) <= LONGEST_NAME and is_written_in(word, LETTERS)


def is_list_word(word):
    """Tell whether these are numerals, or - for None, with commas between."""
    return all([part == "-" or is_numeral(part) for part in word.split(",")])


def is_word_of(form, word):
    """Tell whether a word can stand where this form is asked for."""
    if form == "number":
        return is_numeral(word)
    return is_side(word) if form == "side" else is_list_word(word)


def value_of(form, word):
    """Return what a word of a form says: a number, a side or a list."""
    if form == "number":
        return int(word)
    if form == "side":
        return word
    return tuple([None if part == "-" else int(part) for part in word.split(",")])


def parts_of_log_line(line):
    """Return the word log, the name and the TEXT of a line that keeps a log."""
    word, _, rest = line.partition(" ")
    name, _, text = rest.partition(" ")
    if not is_name(name) or text == "":
        raise NoLine()
    return word, name, (text,)


def parts_of(line):
    """Return the first word, the name and the tuple of the further values of a line, by its form.

    The name is "" for lines that have none. NoLine is raised for what has no
    such form.
    """
    if not isinstance(line, str) or "\n" in line:
        raise NoLine()
    if line.startswith("log "):
        return parts_of_log_line(line)
    if line == "names" or line == "undo":
        return line, "", ()
    words = line.split(" ")
    if words[0] not in FORMS or len(words) != len(FORMS[words[0]]) + 2 or not is_name(words[1]):
        raise NoLine()
    forms = FORMS[words[0]]
    if not all([is_word_of(form, word) for form, word in zip(forms, words[2:])]):
        raise NoLine()
    return words[0], words[1], tuple([value_of(form, word) for form, word in zip(forms, words[2:])])
