"""Checks that raise the error of an argument unless it is a right one."""

from takenover.errors import (NoCut, NoDenials, NoEdition, NoFind, NoFinds, NoList, NoMoment, NoOffice, NoOrder, NoRow,
                              NoSide, SureRow, TooMany)
from takenover.kinds import are_finds, is_find, is_list, is_number, is_order, is_side

MOST_FINDS = 40
MOST_DENIALS = 3


def check_side(side):
    """Raise NoSide unless this is a side of posts."""
    if not is_side(side):
        raise NoSide()


def check_cut(offices, cut):
    """Raise NoCut unless this is a cut of so many offices."""
    if not is_number(cut, offices + 1):
        raise NoCut()


def check_order(order):
    """Raise NoOrder unless this is an order."""
    if not is_order(order):
        raise NoOrder()


def check_orders(one, other):
    """Raise NoOrder unless these are two orders of one length."""
    check_order(one)
    check_order(other)
    if len(one) != len(other):
        raise NoOrder()


def check_list(log, editions):
    """Raise NoList unless this is a list for the log."""
    if not is_list(log, editions):
        raise NoList()


def check_finds(log, finds):
    """Raise NoFinds unless these are finds of the log."""
    if not are_finds(log, finds, MOST_FINDS):
        raise NoFinds()


def check_find(log, find):
    """Raise NoFind unless this is a find of the log."""
    if not is_find(log, find):
        raise NoFind()


def check_denials(log, denials):
    """Raise NoDenials unless these are denials, finds of the log that are untrue."""
    if not are_finds(log, denials, MOST_DENIALS):
        raise NoDenials()


def check_moment(log, moment):
    """Raise NoMoment unless this is a moment of the log."""
    if not is_number(moment, len(log.rows) + 1):
        raise NoMoment()


def check_office(log, office):
    """Raise NoOffice unless this is an office of the log."""
    if not is_number(office, log.offices):
        raise NoOffice()


def check_edition(log, edition):
    """Raise NoEdition unless this is an edition of the log."""
    if not is_number(edition, log.offices):
        raise NoEdition()


def check_row(log, row):
    """Raise NoRow unless this is the number of a row of the log."""
    if not is_number(row, len(log.rows)):
        raise NoRow()


def check_no_sure_row(log):
    """Raise SureRow with the first sure row of the log, if it has one."""
    for number, (_, _, sure) in enumerate(log.rows):
        if sure:
            raise SureRow(number)


def check_few_offices(log, most):
    """Raise TooMany for a log of more offices than so many."""
    if log.offices > most:
        raise TooMany(most)


def check_few_finds(finds, most):
    """Raise TooMany for more than so many finds."""
    if len(finds) > most:
        raise TooMany(most)
