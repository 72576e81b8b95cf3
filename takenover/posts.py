"""Posts: walks along the cuts through a log, and what they cost."""

from takenover.checks import check_cut, check_list, check_side
from takenover.errors import NoPost
from takenover.kinds import are_numbers, is_number, is_tuple_of
from takenover.rows import cut_between, is_left


def barred_cut(side, row):
    """Return the cut where a post may not stand at a row, None if it may stand at all."""
    return cut_between(row) if is_left(row) == (side == "left") else None


def walk_price(side, start, end):
    """Return what a post pays to walk from one cut to another."""
    return max(0, end - start) if side == "left" else max(0, start - end)


def is_post(log, side, thing):
    """Tell whether this is a post of this side."""
    check_side(side)
    if not is_tuple_of(thing, 3):
        return False
    first, stands, last = thing
    cuts = log.offices + 1
    if not is_number(first, cuts) or not is_number(last, cuts):
        return False
    if not is_tuple_of(stands, len(log.rows)) or not are_numbers(stands, cuts):
        return False
    return all([cut != barred_cut(side, row) for cut, row in zip(stands, log.rows)])


def check_post(log, side, thing):
    """Raise NoSide or NoPost unless this is a post of a side."""
    if not is_post(log, side, thing):
        raise NoPost()


def post_price(log, side, thing):
    """Return what the walk of a post costs."""
    check_post(log, side, thing)
    first, stands, last = thing
    return sum([walk_price(side, start, end) for start, end in zip((first,) + stands, stands + (last,))])


def cheapest_walks(log, side, first):
    """Return the least prices of walks from the first cut to all cuts, and how they pass the rows.

    For each row there is the pair of its barred cut and the cut where the
    cheapest walk to this cut stood at the row, or of None and None. At every
    other cut a walk may stay where it is, so that its price does not change.
    """
    free_way = -1 if side == "left" else 1
    least = [walk_price(side, first, cut) for cut in range(log.offices + 1)]
    passing = []
    for row in log.rows:
        cut = barred_cut(side, row)
        stood = None
        if cut is not None:
            free, paid = cut - free_way, cut + free_way
            stood = free if least[free] <= least[paid] + 1 else paid
            least[cut] = min(least[free], least[paid] + 1)
        passing.append((cut, stood))
    return least, passing


def check_ends(log, side, first, last):
    """Raise NoSide or NoCut unless a post of this side can begin and end so."""
    check_side(side)
    check_cut(log.offices, first)
    check_cut(log.offices, last)


def price(log, side, first, last):
    """Return the least price of a post that begins and ends so."""
    check_ends(log, side, first, last)
    least, _ = cheapest_walks(log, side, first)
    return least[last]


def post(log, side, first, last):
    """Return a post of the least price that begins and ends so."""
    check_ends(log, side, first, last)
    _, passing = cheapest_walks(log, side, first)
    now = last
    stands = []
    for cut, stood in passing[::-1]:
        if now == cut:
            now = stood
        stands.append(now)
    return first, tuple(stands[::-1]), last


def prices(log, side):
    """Return the least prices of all posts, by first cut, then by last cut."""
    check_side(side)
    found = []
    for first in range(log.offices + 1):
        least, _ = cheapest_walks(log, side, first)
        found.append(tuple(least))
    return tuple(found)


def editions_passing(side, first, last, editions):
    """Return the ascending tuple of the editions of a list that pass a post that begins and ends so."""
    held = editions[:last] if side == "left" else editions[last:]
    there = [edition for edition in held if edition is not None]
    return tuple(sorted(set([edition for edition in there if (edition >= first) == (side == "left")])))


def passed(log, side, thing, editions):
    """Return the ascending tuple of the editions of a list that pass a post."""
    check_post(log, side, thing)
    check_list(log, editions)
    return editions_passing(side, thing[0], thing[2], editions)
