"""Which sheets of a web can all come to the last moment, by tables of all sets of offices.

A set of offices is told by a number whose bits are the offices in it, and a
table by a number whose bits are the sets of which something holds.
"""


def sets_with(office, offices):
    """Return the table of the sets of so many offices in which this one is."""
    found = ((1 << (1 << office)) - 1) << (1 << office)
    width = 2 << office
    while width < 1 << offices:
        found |= found << width
        width *= 2
    return found


def sets_ahead(table, row, having):
    """Return the table ahead of a row by the one behind it, having[office] being that of the sets with the office."""
    x, y, sure = row
    # Where the sheet of y goes on in x alone, y is in the set ahead, and x in the one behind.
    going = table & having[x]
    going ^= going & having[y]
    shift = (1 << y) - (1 << x)
    copied = going << shift if shift > 0 else going >> -shift
    # Behind a sure row nothing stays in x.
    staying = table ^ (table & having[x]) if sure else table
    return staying | copied


def tables_of(web):
    """Return for each moment the table of the sets of offices whose sheets then can all come to the last moment."""
    having = [sets_with(office, web.offices) for office in range(web.offices)]
    tables = [(1 << (1 << web.offices)) - 1]
    for row in web.rows[::-1]:
        tables.append(sets_ahead(tables[-1], row, having))
    return tables[::-1]


def set_of(numbers):
    """Return the number of the set of these numbers."""
    return sum([1 << number for number in numbers])


def has_set(table, numbers):
    """Tell whether the set of these numbers is in a table."""
    return (table >> set_of(numbers)) & 1 == 1
