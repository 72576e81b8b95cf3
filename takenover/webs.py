"""Webs: offices that may have copied any other one, and what can still be there of their editions."""

from takenover.blocks import fewest_places, next_places
from takenover.checks import check_few_offices
from takenover.choosing import numbers_in
from takenover.errors import BadWeb, NoLot, NoWorths
from takenover.kinds import are_numbers, ascends, is_between, is_number, is_tuple_of
from takenover.lots import has_set, tables_of
from takenover.rows import is_copying, wrong_part

MOST_WORTH = 10 ** 9
MOST_COUNTED = 8


class Web:
    """The moments, in time, at which an office may have copied the sheet of any other one."""

    def __init__(self, offices, rows):
        part = wrong_part(offices, rows, is_copying)
        if part is not None:
            raise BadWeb(part)
        self.offices = offices
        self.rows = rows

    def __eq__(self, other):
        return isinstance(other, Web) and self.offices == other.offices and self.rows == other.rows


def web_of(log):
    """Return the web of the rows of a log."""
    web = Web(log.offices, ())
    web.rows = log.rows
    return web


def is_lot(web, thing):
    """Tell whether this is an ascending tuple of editions."""
    return isinstance(thing, tuple) and are_numbers(thing, web.offices) and ascends(thing)


def check_lot(web, lot):
    """Raise NoLot unless this is a lot of the web."""
    if not is_lot(web, lot):
        raise NoLot()


def ways_by(web, lot, tables):
    """Return ways for a lot that can be there, by the tables of all moments."""
    now = list(lot)
    moments = [tuple(now)]
    for (x, y, _), table in zip(web.rows, tables[1:]):
        # Where not all can stay, that of y must go on in x.
        if not has_set(table, now):
            now[now.index(y)] = x
        moments.append(tuple(now))
    return tuple([tuple([offices[at] for offices in moments]) for at in range(len(lot))])


def ways(web, lot):
    """Return ways for a lot, no two of them at one place, None if there are none."""
    check_lot(web, lot)
    tables = tables_of(web)
    return ways_by(web, lot, tables) if has_set(tables[0], lot) else None


def is_way(web, edition, thing):
    """Tell whether this is a way of an edition."""
    if not is_tuple_of(thing, len(web.rows) + 1) or not are_numbers(thing, web.offices) or thing[0] != edition:
        return False
    places = list(enumerate(thing))
    return all([place in next_places(web, ahead) for ahead, place in zip(places, places[1:])])


def is_ways(web, lot, thing):
    """Tell whether these are ways of the editions of a lot, in order, no two of them at one place."""
    check_lot(web, lot)
    if not is_tuple_of(thing, len(lot)) or not all([is_way(web, edition, way) for edition, way in zip(lot, thing)]):
        return False
    return all([len(set([way[moment] for way in thing])) == len(lot) for moment in range(len(web.rows) + 1)])


def grown_lot(table, lot, editions):
    """Return the lot of another one and of each of some editions, ascending, that can still be there beside it."""
    found = lot
    for edition in editions:
        if has_set(table, found + (edition,)):
            found = found + (edition,)
    return found


def block(web, lot):
    """Return fewer places than a lot has editions, one of which each of their ways comes to, None if there are none."""
    check_lot(web, lot)
    tables = tables_of(web)
    if has_set(tables[0], lot):
        return None
    return fewest_places(web, lot, ways_by(web, grown_lot(tables[0], (), lot), tables))


def is_place(web, thing):
    """Tell whether this is a pair of a moment and an office."""
    return is_tuple_of(thing, 2) and is_number(thing[0], len(web.rows) + 1) and is_number(thing[1], web.offices)


def is_passable(web, lot, places):
    """Tell whether some way of an edition of a lot comes to none of these places."""
    barred = {place: True for place in places}
    queue = [(0, edition) for edition in lot]
    seen = {}
    while queue:
        place = queue.pop()
        if place in barred or place in seen:
            continue
        if place[0] == len(web.rows):
            return True
        seen[place] = True
        queue.extend(next_places(web, place))
    return False


def is_block(web, lot, thing):
    """Tell whether these are fewer places than a lot has editions, one of which each of their ways comes to."""
    check_lot(web, lot)
    if not isinstance(thing, tuple) or len(thing) >= len(lot) or not all([is_place(web, place) for place in thing]):
        return False
    return ascends(thing) and not is_passable(web, lot, thing)


def greatest_lot(web):
    """Return the least of the greatest lots that can be there."""
    # By the seventh fact each lot grows to a greatest one, so that the least editions can be taken first.
    return grown_lot(tables_of(web)[0], (), list(range(web.offices)))


def all_lots(web):
    """Return the list of all lots that can be there."""
    table = tables_of(web)[0]
    chosen = [number for number in range(1 << web.offices) if (table >> number) & 1]
    return [tuple(numbers_in(number, web.offices)) for number in chosen]


def worthiest(web, worths):
    """Return the greatest sum of worths of a lot that can be there, and the least such lot."""
    if not is_tuple_of(worths, web.offices) or not all([is_between(worth, 0, MOST_WORTH) for worth in worths]):
        raise NoWorths()
    weighed = [(sum([worths[edition] for edition in lot]), lot) for lot in all_lots(web)]
    greatest = max([worth for worth, _ in weighed])
    return greatest, min([lot for worth, lot in weighed if worth == greatest])


def exchanged(web, one, other):
    """Return the least edition of a greater lot that can be there beside all of a lesser one."""
    check_lot(web, one)
    check_lot(web, other)
    table = tables_of(web)[0]
    if len(other) <= len(one) or not has_set(table, one) or not has_set(table, other):
        raise NoLot()
    fresh = [edition for edition in other if edition not in one]
    return [edition for edition in fresh if has_set(table, one + (edition,))][0]


def count_lots(web):
    """Return the number of the lots that can be there, the empty one among them."""
    check_few_offices(web, MOST_COUNTED)
    return len(all_lots(web))


def surely_gone(web):
    """Return the ascending tuple of the editions that no office can hold at the last moment."""
    table = tables_of(web)[0]
    return tuple([edition for edition in range(web.offices) if not has_set(table, (edition,))])
