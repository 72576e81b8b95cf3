"""Answers found apart from the program: all doings gone through, sheets copied row by row."""

from itertools import product


def row_choices(offices, sures=(False, True)):
    """Return all rows that a log of so many offices can have."""
    out = []
    for x in range(offices):
        out += [(x, y, sure) for y in (x - 1, x + 1) if 0 <= y < offices for sure in sures]
    return out


def all_rows(offices, many, sures=(False, True)):
    """Return all tuples of so many rows."""
    return list(product(row_choices(offices, sures), repeat=many))


def some_rows(chance, offices, many, sures=(False, True)):
    """Return a tuple of rows drawn by a source with a fixed seed."""
    choices = row_choices(offices, sures)
    return tuple(chance.choice(choices) for _ in range(many)) if choices else ()


def doings(rows):
    """Return all doings of some rows."""
    return list(product(*[(True,) if sure else (False, True) for _, _, sure in rows]))


def run(offices, rows, doing):
    """Return the sheets at all moments."""
    sheets = [list(range(offices))]
    for (x, y, _), done in zip(rows, doing):
        copied = list(sheets[-1])
        if done:
            copied[x] = sheets[-1][y]
        sheets.append(copied)
    return [tuple(held) for held in sheets]


def runs(offices, rows):
    """Return the sheets at all moments for each doing."""
    return {doing: run(offices, rows, doing) for doing in doings(rows)}


def finals(offices, rows):
    """Return the set of the sheets that can be there at the last moment."""
    return {moments[-1] for moments in runs(offices, rows).values()}


def cuts_of(sheets):
    """Return the cuts of all borders of some sheets, by counting."""
    return tuple(sum(1 for edition in sheets if edition < border) for border in range(len(sheets) + 1))


def rising(offices):
    """Return all sheets of so many offices that never fall along the row."""
    return [held for held in product(range(offices), repeat=offices) if list(held) == sorted(held)]
