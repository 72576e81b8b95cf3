"""The doings in which finds are true, counted, numbered and weighed by chances."""

from takenover.checks import check_edition, check_few_offices, check_finds, check_moment, check_office
from takenover.dated import is_doing_for
from takenover.errors import NoDoing, NoNumber, TooMany
from takenover.kinds import is_integer
from takenover.logs import check_doing
from takenover.reach import Field, last_sheets
from takenover.tables import ChanceRule, FewestRule, Tables, count_rule, doings_through, flags_by
from takenover.weighing import check_chances, fraction, whole_weight
from takenover.words import word_for

MOST_OFFICES = 8
MOST_LISTED = 2000


def check_counted(log, finds):
    """Raise NoFinds or TooMany unless the doings in which finds are true can be counted."""
    check_finds(log, finds)
    check_few_offices(log, MOST_OFFICES)


def counting(log, finds):
    """Return the rule that counts the doings in which finds are true."""
    field = Field(log)
    return count_rule(field, flags_by(field, finds))


def count_doings(log, finds):
    """Return the number of the doings in which the finds are true."""
    check_counted(log, finds)
    return counting(log, finds).table_at(0)[0]


def doing_at(log, finds, number):
    """Return the doing with this number, ascending, of those in which the finds are true."""
    check_finds(log, finds)
    if not is_integer(number) or number < 0:
        raise NoNumber()
    check_few_offices(log, MOST_OFFICES)
    tables = Tables(counting(log, finds))
    if number >= tables.at_moment(0)[0]:
        raise NoNumber()
    field = tables.rule.field
    now = 0
    found = []
    for at, (_, _, sure) in enumerate(log.rows):
        undone = 0 if sure else tables.at_moment(at + 1)[now]
        done = number >= undone
        if done:
            number -= undone
            now = field.lead(at)[now]
        found.append(done)
    return tuple(found)


def doing_number(log, finds, thing):
    """Return the number of a doing, ascending, among those in which the finds are true."""
    check_finds(log, finds)
    check_doing(log, thing)
    check_few_offices(log, MOST_OFFICES)
    if not is_doing_for(log, finds, thing):
        raise NoDoing()
    tables = Tables(counting(log, finds))
    field = tables.rule.field
    now = 0
    number = 0
    for at, (_, _, sure) in enumerate(log.rows):
        if thing[at]:
            number += 0 if sure else tables.at_moment(at + 1)[now]
            now = field.lead(at)[now]
    return number


def choices_behind(row, lead, table, ends):
    """Return the ways on over a row, as (number of the way so far, whether it is done, sheets behind), ascending."""
    found = []
    for number, now in enumerate(ends):
        if not row[2] and table[now]:
            found.append((number, False, now))
        if table[lead[now]]:
            found.append((number, True, lead[now]))
    return found


def all_doings(log, finds):
    """Return the ascending list of all doings in which the finds are true."""
    check_counted(log, finds)
    tables = Tables(counting(log, finds))
    many = tables.at_moment(0)[0]
    if many > MOST_LISTED:
        raise TooMany(MOST_LISTED)
    ends = [0] if many else []
    steps = []
    for at, row in enumerate(log.rows):
        steps.append(choices_behind(row, tables.rule.field.lead(at), tables.at_moment(at + 1), ends))
        ends = [now for _, _, now in steps[-1]]
    return [doing_through(steps, number) for number in range(many)]


def doing_through(steps, number):
    """Return the doing of the way with this number, by the ways on over each row."""
    found = []
    for ways in steps[::-1]:
        number, done, _ = ways[number]
        found.append(done)
    return tuple(found[::-1])


def fewest_done(log, finds):
    """Return the least number of rows done where the finds are true, and the least such doing, None if none is."""
    check_counted(log, finds)
    field = Field(log)
    beyond = len(log.rows) + 1
    tables = Tables(FewestRule(field, flags_by(field, finds), 0, beyond))
    least = tables.at_moment(0)[0]
    if least >= beyond:
        return None
    left = least
    now = 0
    found = []
    for at, (_, _, sure) in enumerate(log.rows):
        done = sure or tables.at_moment(at + 1)[now] > left
        if done:
            left -= 1
            now = field.lead(at)[now]
        found.append(done)
    return least, tuple(found)


def chance(log, finds, chances):
    """Return the chance that the finds are true if each row is done with its chance."""
    check_finds(log, finds)
    check_chances(log, chances)
    check_few_offices(log, MOST_OFFICES)
    field = Field(log)
    weight = ChanceRule(field, flags_by(field, finds), chances).table_at(0)[0]
    return fraction(weight, whole_weight(log, chances))


def final_rows(log):
    """Return the ascending list of all sheets that can be there at the last moment."""
    check_few_offices(log, MOST_OFFICES)
    found = last_sheets(log)
    if len(found) > MOST_LISTED:
        raise TooMany(MOST_LISTED)
    return found


def count_final(log):
    """Return the number of the sheets that can be there at the last moment."""
    check_few_offices(log, MOST_OFFICES)
    return len(last_sheets(log))


def flags_without(field, finds, office, edition):
    """Return the flags of finds at all moments, none of them True where an office holds an edition."""
    without = [not held for held in field.holding(office, edition)]
    found = {moment: without for moment in range(len(field.log.rows) + 1)}
    for moment, flags in flags_by(field, finds).items():
        found[moment] = [flag and other for flag, other in zip(flags, without)]
    return found


def ever_held(log, finds, office, edition):
    """Tell whether an office held an edition at some moment in all, none or some of the doings."""
    check_finds(log, finds)
    check_office(log, office)
    check_edition(log, edition)
    check_few_offices(log, MOST_OFFICES)
    field = Field(log)
    many = count_rule(field, flags_by(field, finds)).table_at(0)[0]
    never = count_rule(field, flags_without(field, finds, office, edition)).table_at(0)[0]
    return word_for(never < many, never > 0)


def asked_next(log, finds, moment):
    """Return the office whose edition at a moment leaves, at worst, the fewest doings, None if there is no doing."""
    check_finds(log, finds)
    check_moment(log, moment)
    check_few_offices(log, MOST_OFFICES)
    rule = counting(log, finds)
    doings = doings_through(rule, moment)
    if not any([number > 0 for number in doings]):
        return None
    worst = []
    for office in range(log.offices):
        left = [0] * log.offices
        for held, number in zip(rule.field.sheets, doings):
            left[held[office]] += number
        worst.append(max(left))
    return worst.index(min(worst))
