"""Logs, finds and chances drawn with a fixed seed."""

import random

from fractions import Fraction

from oracles import all_rows, run, runs, some_rows


def with_finds(seed, sizes):
    """Return logs with all their runs, each with some finds near such as fit."""
    chance = random.Random(seed)
    logs = [(3, rows) for rows in all_rows(3, 2)] + [(1, ()), (3, ())]
    for offices, many, times in sizes:
        for _ in range(times):
            sures = chance.choice([(False,), (False, True), (False, False, False, True)])
            logs.append((offices, some_rows(chance, offices, many, sures)))
    found = []
    for offices, rows in logs:
        told = runs(offices, rows)
        for _ in range(6):
            base = chance.choice(list(told.values()))
            finds = []
            for _ in range(chance.randint(0, 5)):
                moment, office = chance.randint(0, len(rows)), chance.randrange(offices)
                edition = base[moment][office] if chance.random() < 0.75 else chance.randrange(offices)
                finds.append((moment, office, edition))
            found.append((offices, rows, told, finds))
    return found


def rows_of(text):
    """Return the rows of a text."""
    return tuple((int(one[0]), int(one[1]), one.endswith("!")) for one in text.split())


def finds_of(source, log, many, done=0.2):
    """Return finds that are true in one doing."""
    offices, rows = log.offices, log.rows
    moments = run(offices, rows, tuple(sure or source.random() < done for _, _, sure in rows))
    places = [(source.randint(0, len(rows)), source.randrange(offices)) for _ in range(many)]
    return [(moment, office, moments[moment][office]) for moment, office in places]


def fractions(source, many, most=7):
    """Return fractions from 0 to 1, all of them proper, 0 and 1 among them."""
    out = []
    for _ in range(many):
        bottom = source.randint(1, most)
        one = Fraction(source.randint(0, bottom), bottom)
        out.append((one.numerator, one.denominator))
    return tuple(out)


def chance_apart(rows, doing, chances):
    """Return the chance of a doing, row by row."""
    found = Fraction(1)
    for (_, _, sure), done, (top, bottom) in zip(rows, doing, chances):
        if not sure:
            found *= Fraction(top, bottom) if done else 1 - Fraction(top, bottom)
    return found


# Logs of 8 offices with just so many sheets at the last moment.
JUST_SHEETS = ((2000, "12 21 32 76 01 21 56 76 76 21 56 45 67 43 23 34 10 43 54 54 01! 10 01 43 56 12 23 65 01"),
               (2001, "32 32 10 65 01 45 21 65 32 10 10 43 10 34 23 01 67 43 76 34 01 54 32 43 43 65 56 65 10 45 76"),
               (1999, "45 34 43 10 54 65 65 10 76 54 56 45 10 12 65 01 10 10 23 45 76 21 12 10 32 21 54 45 23 76 76 56"))
