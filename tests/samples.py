"""Small logs drawn with a fixed seed, with finds near such as fit."""

import random

from oracles import all_rows, runs, some_rows


def with_finds(seed, sizes):
    """Return logs with all their runs, each with some finds near such as fit."""
    chance = random.Random(seed)
    logs = [(3, rows) for rows in all_rows(3, 2)] + [(1, ()), (3, ())]
    for offices, many, times in sizes:
        for _ in range(times):
            sures = chance.choice([(False,), (False, True), (False, False, False, True)])
            logs.append((offices, some_rows(chance, offices, many, sures)))
    found = []
    for offices, rows in logs:
        told = runs(offices, rows)
        for _ in range(6):
            base = chance.choice(list(told.values()))
            finds = []
            for _ in range(chance.randint(0, 5)):
                moment, office = chance.randint(0, len(rows)), chance.randrange(offices)
                edition = base[moment][office] if chance.random() < 0.75 else chance.randrange(offices)
                finds.append((moment, office, edition))
            found.append((offices, rows, told, finds))
    return found
