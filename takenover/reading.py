"""Texts read: logs, webs, finds, doings, posts and chains."""

from takenover.checks import check_finds
from takenover.errors import BadText
from takenover.logs import Log, check_doing
from takenover.numerals import is_numeral, is_written_in
from takenover.webs import Web


def numbers_behind(line, word, many):
    """Return the tuple of the numbers of a line of a word and so many numbers, None for another line."""
    words = line.split(" ")
    if len(words) != many + 1 or words[0] != word or not all([is_numeral(numeral) for numeral in words[1:]]):
        return None
    return tuple([int(numeral) for numeral in words[1:]])


def row_or_offices(at, line):
    """Return the number of the offices of a first line, the row of another one, None for a line of no such form."""
    if at == 0:
        return numbers_behind(line, "offices", 1)
    loose = numbers_behind(line, "row", 2)
    if loose is not None:
        return loose + (False,)
    sure = numbers_behind(line, "sure", 2)
    return None if sure is None else sure + (True,)


def find_of(_, line):
    """Return the find of a line, None for a line of no such form."""
    return numbers_behind(line, "find", 3)


def bound_of(_, line):
    """Return the bound of a line, None for a line of no such form."""
    return numbers_behind(line, "bound", 3)


def check_string(text):
    """Raise BadText(0) unless this is a string."""
    if not isinstance(text, str):
        raise BadText(0)


def read_lines(text, told_by):
    """Return the list of what the lines of a text tell, told_by giving that of a line and its number, None if bad."""
    check_string(text)
    lines = text.split("\n")
    found = []
    for at, line in enumerate(lines[:-1]):
        told = told_by(at, line)
        if told is None:
            raise BadText(at + 1)
        found.append(told)
    if lines[-1] != "":
        raise BadText(len(lines))
    return found


def read_rows(text):
    """Return the pair of the number of offices and the rows of the text of a log or a web."""
    found = read_lines(text, row_or_offices)
    if not found:
        raise BadText(1)
    return found[0][0], tuple(found[1:])


def read_log(text):
    """Return the log of a text."""
    offices, rows = read_rows(text)
    return Log(offices, rows)


def read_web(text):
    """Return the web of a text."""
    offices, rows = read_rows(text)
    return Web(offices, rows)


def read_finds(log, text):
    """Return the list of the finds of a text."""
    finds = read_lines(text, find_of)
    check_finds(log, finds)
    return finds


def read_chain(text):
    """Return the list of the bounds of a text."""
    return read_lines(text, bound_of)


def read_doing(log, text):
    """Return the doing of a text."""
    check_string(text)
    if not is_written_in(text, "+."):
        raise BadText(1)
    doing = tuple([sign == "+" for sign in text])
    check_doing(log, doing)
    return doing


def read_post(text):
    """Return the triple of the text of a post."""
    check_string(text)
    words = text.split(": ")
    if len(words) != 3:
        raise BadText(1)
    first, middle, last = words
    stands = [] if middle == "-" else middle.split(",")
    if not all([is_numeral(numeral) for numeral in [first, last] + stands]):
        raise BadText(1)
    return int(first), tuple([int(numeral) for numeral in stands]), int(last)
