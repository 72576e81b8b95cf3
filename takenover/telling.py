"""What is sure, never or open where finds are true, and which finds to doubt."""

from takenover.checks import (check_edition, check_few_finds, check_find, check_finds, check_moment, check_office,
                              check_row)
from takenover.extremes import greatest_editions
from takenover.findsets import FindSets, least_clash, least_doubted, least_reason
from takenover.holding import held_between
from takenover.logs import log_of_any_size
from takenover.spans import Spans
from takenover.words import word_for

MOST_FINDS = 12


def editions_at(log, finds, moment, office):
    """Return the ascending tuple of the editions that an office can hold at a moment."""
    check_finds(log, finds)
    check_moment(log, moment)
    check_office(log, office)
    return held_between(log, finds).editions_at(moment, office)


def offices_at(log, finds, moment, edition):
    """Return the ascending tuple of the offices that can hold an edition at a moment."""
    check_finds(log, finds)
    check_moment(log, moment)
    check_edition(log, edition)
    return held_between(log, finds).offices_at(moment, edition)


def all_at(log, finds, moment):
    """Return the tuple of the editions that each office can hold at a moment."""
    check_finds(log, finds)
    check_moment(log, moment)
    held = held_between(log, finds)
    found = [[] for _ in range(log.offices)]
    for edition in range(log.offices):
        for office in held.offices_at(moment, edition):
            found[office].append(edition)
    return tuple([tuple(editions) for editions in found])


def told(log, finds, find):
    """Tell whether a further find is true in all, none or some of the doings."""
    check_finds(log, finds)
    check_find(log, find)
    held = held_between(log, finds)
    moment, office, edition = find
    span = held.spans.there[moment][office]
    return word_for(held.holders(edition)[span], held.possible and not held.is_sure(span, edition))


def with_sure_row(log, row):
    """Return a log with this one of its rows sure."""
    x, y, _ = log.rows[row]
    return log_of_any_size(log.offices, log.rows[:row] + ((x, y, True),) + log.rows[row + 1:])


def row_told(log, finds, row):
    """Tell whether a row was done in all, none or some of the doings."""
    check_finds(log, finds)
    check_row(log, row)
    sure = log.rows[row][2]
    can_be_done = greatest_editions(Spans(with_sure_row(log, row), ()), finds) is not None
    can_be_undone = not sure and greatest_editions(Spans(log, (row,)), finds) is not None
    return word_for(can_be_done, can_be_undone)


def doubted(log, finds):
    """Return the least numbers of finds without which the others fit, () if all do."""
    check_finds(log, finds)
    check_few_finds(finds, MOST_FINDS)
    return least_doubted(FindSets(log, finds))


def clash(log, finds):
    """Return the least numbers of finds that, alone, do not fit, None if all fit."""
    check_finds(log, finds)
    check_few_finds(finds, MOST_FINDS)
    return least_clash(FindSets(log, finds))


def why(log, finds, find):
    """Return the least numbers of finds that fit and make a further find surely true, None if there are none."""
    check_finds(log, finds)
    check_find(log, find)
    check_few_finds(finds, MOST_FINDS)
    return least_reason(FindSets(log, finds), find)
