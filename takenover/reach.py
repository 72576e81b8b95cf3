"""The sheets that can be there, numbered, and led on row by row."""


class Field:
    """All sheets that rows of a log lead to from the beginning, numbered, the first ones 0.

    lead(at)[number] is the number of the sheets behind the row with the number
    at if it is done, by that of the sheets ahead of it. So no sheets need be
    copied more than once, however many rows there are.
    """

    def __init__(self, log):
        self.log = log
        self.sheets = [tuple(range(log.offices))]
        steps = list({(x, y): True for x, y, _ in log.rows})
        self.leads = {step: [] for step in steps}
        numbers = {self.sheets[0]: 0}
        at = 0
        while at < len(self.sheets):
            held = self.sheets[at]
            at += 1
            for x, y in steps:
                copied = held[:x] + (held[y],) + held[x + 1:]
                if copied not in numbers:
                    numbers[copied] = len(self.sheets)
                    self.sheets.append(copied)
                self.leads[(x, y)].append(numbers[copied])

    def lead(self, at):
        """Return where the row with this number leads all sheets if it is done."""
        x, y, _ = self.log.rows[at]
        return self.leads[(x, y)]

    def holding(self, office, edition):
        """Return for each sheets whether this office holds this edition in them."""
        return [held[office] == edition for held in self.sheets]


def last_sheets(log):
    """Return the ascending list of all sheets that can be there at the last moment."""
    field = Field(log)
    there = [number == 0 for number in range(len(field.sheets))]
    for at, (_, _, sure) in enumerate(log.rows):
        behind = [False] * len(there) if sure else list(there)
        for here, to in zip(there, field.lead(at)):
            if here:
                behind[to] = True
        there = behind
    return sorted([held for held, here in zip(field.sheets, there) if here])
