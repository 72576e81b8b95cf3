"""Borders: how many offices hold an edition below a number."""

from takenover.errors import NoBorder, NoCuts, NoEdition, NoSheets
from takenover.kinds import are_numbers, are_sheets, is_number, never_falls
from takenover.logs import check_doing
from takenover.rows import cut_between, is_left


def check_sheets(sheets):
    """Raise NoSheets unless these can be sheets of one to twelve offices."""
    if not are_sheets(sheets):
        raise NoSheets()


def borders(sheets):
    """Return the cuts of all borders."""
    check_sheets(sheets)
    return tuple([len([edition for edition in sheets if edition < border]) for border in range(len(sheets) + 1)])


def are_cuts(thing):
    """Tell whether all borders of some sheets can stand so."""
    if not isinstance(thing, tuple) or not 2 <= len(thing) <= 13:
        return False
    if not are_numbers(thing, len(thing)) or not never_falls(thing):
        return False
    return thing[0] == 0 and thing[-1] == len(thing) - 1


def read_off(cuts):
    """Return the sheets whose borders stand at these cuts."""
    if not are_cuts(cuts):
        raise NoCuts()
    # The borders at an office or ahead of it are 0 to its edition.
    return tuple([len([cut for cut in cuts if cut <= office]) - 1 for office in range(len(cuts) - 1)])


def border_path(log, doing, border):
    """Return the list of the cuts of a border at all moments."""
    check_doing(log, doing)
    if not is_number(border, log.offices + 1):
        raise NoBorder()
    path = [border]
    for row, done in zip(log.rows, doing):
        cut = path[-1]
        if done and cut == cut_between(row):
            cut += -1 if is_left(row) else 1
        path.append(cut)
    return path


def stretch(sheets, edition):
    """Return the first and the last office that hold an edition, None if none does."""
    check_sheets(sheets)
    if not is_number(edition, len(sheets)):
        raise NoEdition()
    holders = [office for office, held in enumerate(sheets) if held == edition]
    return (holders[0], holders[-1]) if holders else None


def stretches(sheets):
    """Return the list of the editions that are there, each with its first and last office."""
    check_sheets(sheets)
    return [(edition,) + stretch(sheets, edition) for edition in sorted(set(sheets))]
