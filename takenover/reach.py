"""The sheets that can be there, led on row by row."""


def sheets_behind(row, held_before):
    """Return a dict whose keys are the sheets that can be there behind a row, by those ahead of it."""
    x, y, sure = row
    found = {} if sure else {held: True for held in held_before}
    for held in held_before:
        found[held[:x] + (held[y],) + held[x + 1:]] = True
    return found


def last_sheets(log):
    """Return the ascending list of all sheets that can be there at the last moment."""
    found = {tuple(range(log.offices)): True}
    for row in log.rows:
        found = sheets_behind(row, found)
    return sorted(found)
