"""Checks that raise the error of an argument unless it is a right one."""

from takenover.errors import NoCut, NoFinds, NoList, NoOrder, NoSide, SureRow
from takenover.kinds import are_finds, is_list, is_number, is_order, is_side


def check_side(side):
    """Raise NoSide unless this is a side of posts."""
    if not is_side(side):
        raise NoSide()


def check_cut(offices, cut):
    """Raise NoCut unless this is a cut of so many offices."""
    if not is_number(cut, offices + 1):
        raise NoCut()


def check_order(order):
    """Raise NoOrder unless this is an order."""
    if not is_order(order):
        raise NoOrder()


def check_list(log, editions):
    """Raise NoList unless this is a list for the log."""
    if not is_list(log, editions):
        raise NoList()


def check_finds(log, finds):
    """Raise NoFinds unless these are finds of the log."""
    if not are_finds(log, finds):
        raise NoFinds()


def check_no_sure_row(log):
    """Raise SureRow with the first sure row of the log, if it has one."""
    for number, (_, _, sure) in enumerate(log.rows):
        if sure:
            raise SureRow(number)
