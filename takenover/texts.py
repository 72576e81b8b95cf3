"""Texts of logs, webs, finds, doings, posts and chains."""

from takenover.checks import check_finds
from takenover.errors import NoChain, NoDoing, NoPost
from takenover.kinds import is_integer, is_tuple_of


def text_of_rows(offices, rows):
    """Return the text of a log or a web."""
    lines = [f"offices {offices}\n"]
    for x, y, sure in rows:
        word = "sure" if sure else "row"
        lines.append(f"{word} {x} {y}\n")
    return "".join(lines)


def log_text(log):
    """Return the text of a log."""
    return text_of_rows(log.offices, log.rows)


def web_text(web):
    """Return the text of a web."""
    return text_of_rows(web.offices, web.rows)


def text_of_triples(word, triples):
    """Return the text with a line for each triple, which begins with a word."""
    return "".join([f"{word} {one} {two} {three}\n" for one, two, three in triples])


def finds_text(log, finds):
    """Return the text of finds."""
    check_finds(log, finds)
    return text_of_triples("find", finds)


def doing_text(doing):
    """Return the text of a doing: a sign for each row."""
    if not isinstance(doing, tuple) or not all([isinstance(done, bool) for done in doing]):
        raise NoDoing()
    return "".join(["+" if done else "." for done in doing])


def are_from_0(things):
    """Tell whether each of these is an integer from 0 on."""
    return all([is_integer(thing) and thing >= 0 for thing in things])


def numbers_text(numbers):
    """Return the text of a tuple of numbers, perhaps of none."""
    return ",".join([str(number) for number in numbers]) if numbers else "-"


def is_any_post(thing):
    """Tell whether this is a triple of an integer from 0 on, a tuple of such and such a one."""
    if not is_tuple_of(thing, 3):
        return False
    first, stands, last = thing
    return isinstance(stands, tuple) and are_from_0(stands) and are_from_0((first, last))


def post_text(thing):
    """Return the text of a post."""
    if not is_any_post(thing):
        raise NoPost()
    first, stands, last = thing
    return f"{first}: {numbers_text(stands)}: {last}"


def chain_text(thing):
    """Return the text of a chain."""
    if not isinstance(thing, list) or not all([is_tuple_of(bound, 3) and are_from_0(bound) for bound in thing]):
        raise NoChain()
    return text_of_triples("bound", thing)
