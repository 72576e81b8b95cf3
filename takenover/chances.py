"""Chances of the sheets at the last moment, and the likeliest doing."""

from takenover.checks import check_few_offices, check_finds
from takenover.reach import Field
from takenover.tables import LikeliestRule, Tables, flags_by
from takenover.weighing import check_chances, fraction, whole_weight

MOST_OFFICES = 8


def final_weights(log, chances):
    """Return the list of the pairs of sheets at the last moment and their chances, times the bottoms of all rows."""
    field = Field(log)
    weights = [1 if number == 0 else 0 for number in range(len(field.sheets))]
    for at, (_, _, sure) in enumerate(log.rows):
        top, bottom = (1, 1) if sure else chances[at]
        behind = [(bottom - top) * weight for weight in weights]
        for weight, to in zip(weights, field.lead(at)):
            behind[to] += top * weight
        weights = behind
    return [(held, weight) for held, weight in zip(field.sheets, weights) if weight > 0]


def final_chances(log, chances):
    """Return a dict from the sheets that come at the last moment with a chance above 0 to these chances."""
    check_chances(log, chances)
    check_few_offices(log, MOST_OFFICES)
    whole = whole_weight(log, chances)
    return {held: fraction(weight, whole) for held, weight in final_weights(log, chances)}


def mean_apart(log, chances):
    """Return the mean number of unlike editions that are there at the last moment."""
    check_chances(log, chances)
    check_few_offices(log, MOST_OFFICES)
    total = sum([weight * len(set(held)) for held, weight in final_weights(log, chances)])
    return fraction(total, whole_weight(log, chances))


def likeliest(log, finds, chances):
    """Return the greatest chance of a doing in which the finds are true, and the least such doing, None if none is."""
    check_finds(log, finds)
    check_chances(log, chances)
    check_few_offices(log, MOST_OFFICES)
    field = Field(log)
    tables = Tables(LikeliestRule(field, flags_by(field, finds), chances))
    greatest = tables.at_moment(0)[0]
    if greatest < 0:
        return None
    ahead = 1
    now = 0
    found = []
    for at, (_, _, sure) in enumerate(log.rows):
        top, bottom = (1, 1) if sure else chances[at]
        undone = tables.at_moment(at + 1)[now]
        # Told by the whole chance, as where that is 0 any way behind the row is as good as the greatest one.
        done = sure or undone < 0 or ahead * (bottom - top) * undone < greatest
        ahead *= top if done else bottom - top
        now = field.lead(at)[now] if done else now
        found.append(done)
    return fraction(greatest, whole_weight(log, chances)), tuple(found)
