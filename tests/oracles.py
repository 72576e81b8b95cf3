"""Answers found apart from the program: all doings gone through, sheets copied row by row."""

from itertools import combinations, product


def row_choices(offices, sures=(False, True)):
    """Return all rows that a log of so many offices can have."""
    out = []
    for x in range(offices):
        out += [(x, y, sure) for y in (x - 1, x + 1) if 0 <= y < offices for sure in sures]
    return out


def all_rows(offices, many, sures=(False, True)):
    """Return all tuples of so many rows."""
    return list(product(row_choices(offices, sures), repeat=many))


def some_rows(chance, offices, many, sures=(False, True)):
    """Return a tuple of rows drawn by a source with a fixed seed."""
    choices = row_choices(offices, sures)
    return tuple(chance.choice(choices) for _ in range(many)) if choices else ()


def doings(rows):
    """Return all doings of some rows."""
    return list(product(*[(True,) if sure else (False, True) for _, _, sure in rows]))


def run(offices, rows, doing):
    """Return the sheets at all moments."""
    sheets = [list(range(offices))]
    for (x, y, _), done in zip(rows, doing):
        copied = list(sheets[-1])
        if done:
            copied[x] = sheets[-1][y]
        sheets.append(copied)
    return [tuple(held) for held in sheets]


def runs(offices, rows):
    """Return the sheets at all moments for each doing."""
    return {doing: run(offices, rows, doing) for doing in doings(rows)}


def finals(offices, rows):
    """Return the set of the sheets that can be there at the last moment."""
    return {moments[-1] for moments in runs(offices, rows).values()}


def finals_led_on(offices, rows):
    """Return the same set, for logs of more rows: all sheets that can be there led on over each row."""
    found = {tuple(range(offices))}
    for x, y, sure in rows:
        copied = {held[:x] + (held[y],) + held[x + 1:] for held in found}
        found = copied if sure else found | copied
    return found


def cuts_of(sheets):
    """Return the cuts of all borders of some sheets, by counting."""
    return tuple(sum(1 for edition in sheets if edition < border) for border in range(len(sheets) + 1))


def rising(offices):
    """Return all sheets of so many offices that never fall along the row."""
    return [held for held in product(range(offices), repeat=offices) if list(held) == sorted(held)]


def true_in(moments, finds):
    """Tell whether all finds are true of the sheets at all moments."""
    return all(moments[moment][office] == edition for moment, office, edition in finds)


def finds_at_end(rows, editions):
    """Return the finds that a list at the last moment is."""
    return [(len(rows), office, edition) for office, edition in enumerate(editions) if edition is not None]


def can_be_among(ends, editions):
    """Tell whether a list is true of one of these sheets."""
    return any(all(edition in (None, here) for edition, here in zip(editions, held)) for held in ends)


def all_lists(offices):
    """Return all lists for so many offices."""
    return list(product([None] + list(range(offices)), repeat=offices))


def barred(side, row):
    """Return the cut where a post of a side may not stand at a row, None if there is none."""
    x, y, _ = row
    if side == "left":
        return x + 1 if y == x + 1 else None
    return x if y == x - 1 else None


def all_stands(offices, rows, side):
    """Return all stands of posts of a side."""
    return list(product(*[[cut for cut in range(offices + 1) if cut != barred(side, row)] for row in rows]))


def walk_cost(side, thing):
    """Return what a post pays, cut by cut."""
    first, stands, last = thing
    paid = 0
    walk = [first] + list(stands) + [last]
    for start, end in zip(walk, walk[1:]):
        while start != end:
            step = 1 if end > start else -1
            paid += 1 if (step == 1) == (side == "left") else 0
            start += step
    return paid


def passing(side, first, last, editions):
    """Return the set of the editions of a list that pass a post."""
    if side == "left":
        return {edition for edition in editions[:last] if edition is not None and edition >= first}
    return {edition for edition in editions[last:] if edition is not None and edition < first}


def order_of(offices, rows, side):
    """Return the left or the right order, by exchanges row by row."""
    order = list(range(offices))
    for x, y, _ in rows:
        if side == "left" and y == x + 1 and order[x + 1] > order[x]:
            order[x], order[x + 1] = order[x + 1], order[x]
        if side == "right" and y == x - 1 and order[x] > order[x - 1]:
            order[x - 1], order[x] = order[x], order[x - 1]
    return tuple(order)


def there_at(offices, rows, finds):
    """Return for each moment the set of the sheets that are there in the doings in which the finds are true.

    The sheets are led on over each row, and those from which the finds behind cannot come are left out.
    """
    shown = {}
    for moment, office, edition in finds:
        shown.setdefault(moment, []).append((office, edition))
    found = [{tuple(range(offices))}]
    for at, (x, y, sure) in enumerate(rows):
        held_here = {held for held in found[-1] if all(held[o] == v for o, v in shown.get(at, []))}
        found[-1] = held_here
        copied = {held[:x] + (held[y],) + held[x + 1:] for held in held_here}
        found.append(copied if sure else copied | held_here)
    found[-1] = {held for held in found[-1] if all(held[o] == v for o, v in shown.get(len(rows), []))}
    for at in range(len(rows) - 1, -1, -1):
        x, y, sure = rows[at]
        found[at] = {held for held in found[at] if held[:x] + (held[y],) + held[x + 1:] in found[at + 1]
                     or not sure and held in found[at + 1]}
    return found


def subsets(things):
    """Return all tuples of some ascending things, fewer first, then the least."""
    return [some for many in range(len(things) + 1) for some in combinations(things, many)]


def comes_from_outside(offices, finds, bound):
    """Tell whether a bound comes from the start or from a find, as 7.2 says."""
    if bound in [(0, border, border) for border in range(offices + 1)]:
        return True
    return any(bound == (moment, edition + 1, office + 1) for moment, office, edition in finds)


def comes_from(offices, rows, finds, ahead, bound):
    """Tell whether a bound comes from another one, clause by clause of 7.2."""
    m, a, c = ahead
    if bound[0] == m:
        if bound[1] != a + 1 or a + 1 > offices:
            return False
        apart = any(edition == a and moment >= m for moment, _, edition in finds)
        return bound[2] == c or (apart and bound[2] == c + 1)
    if bound[1] != a:
        return False
    if bound[0] == m + 1 and m < len(rows):
        x, y, sure = rows[m]
        if (x, y) == (c - 1, c):
            return bound[2] == c - 1
        if sure and (x, y) == (c, c - 1):
            return bound[2] == c + 1
        return bound[2] == c
    if bound[0] == m - 1 and m > 0:
        x, y, sure = rows[m - 1]
        if (x, y) == (c - 1, c - 2):
            return bound[2] == c - 1
        if sure and (x, y) == (c - 1, c):
            return bound[2] == c + 1
        return bound[2] == c
    return False


def denied(finds, bound):
    """Tell whether a bound is denied by the start or by a find."""
    m, a, c = bound
    return (m == 0 and c > a) or any((m, a) == (moment, edition) and c > x for moment, x, edition in finds)


def right_chain(offices, rows, finds, thing):
    """Judge a list of triples of integers clause by clause of 7.2."""
    if not thing or not comes_from_outside(offices, finds, thing[0]):
        return False
    if not all(comes_from(offices, rows, finds, ahead, bound) for ahead, bound in zip(thing, thing[1:])):
        return False
    return denied(finds, thing[-1])


def counts_on(offices, rows, finds, denials=(), ahead_of=None):
    """Return for the sheets at the last moment how many doings lead there, with the finds true, the denials not.

    Only doings ahead of one of them, ascending, are counted if that is told.
    """
    def right(at, held):
        here = all(held[office] == edition for moment, office, edition in finds if moment == at)
        return here and not any(held[office] == edition for moment, office, edition in denials if moment == at)

    start = tuple(range(offices))
    counts = {start: 1} if ahead_of is None and right(0, start) else {}
    along = start if right(0, start) else None
    for at, (x, y, sure) in enumerate(rows):
        behind = {}
        ways = (True,) if sure else (False, True)
        choices = [(held, number, done) for held, number in counts.items() for done in ways]
        if ahead_of is not None and along is not None:
            if ahead_of[at] and not sure:
                choices.append((along, 1, False))
            if ahead_of[at]:
                along = along[:x] + (along[y],) + along[x + 1:]
            if not right(at + 1, along):
                along = None
        for held, number, done in choices:
            to = held[:x] + (held[y],) + held[x + 1:] if done else held
            if right(at + 1, to):
                behind[to] = behind.get(to, 0) + number
        counts = behind
    return counts
