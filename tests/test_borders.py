import random
import unittest

from itertools import product
from oracles import all_rows, cuts_of, doings, rising, run, some_rows
from takenover.borders import border_path, borders, read_off, stretch, stretches
from takenover.errors import NoBorder, NoCuts, NoDoing, NoEdition, NoSheets
from takenover.logs import Log
from wrongs import error_of, nested, try_wrongs, wrong_numbers, wrong_things

WRONG_SHEETS = wrong_things()
WRONG_SHEETS = [thing for thing in WRONG_SHEETS if thing != (0,) and not (isinstance(thing, tuple) and thing == (0, 0, 0))]
WRONG_SHEETS += [(1,), (0, 2), (1, 0), (0, 1, 3), (0, -1), (0, True), (False, 0), [0, 1], (0, None), (0, "1")]
WRONG_SHEETS += [(0,) * 13, tuple(range(13)), (0, nested(tuple, 38)), (2, 1, 0), (0, 0, 1, 0)]


class Borders(unittest.TestCase):
    def test_all_small_sheets(self):
        for offices in range(1, 6):
            for held in rising(offices):
                self.assertEqual(cuts_of(held), borders(held))
                self.assertEqual(held, read_off(cuts_of(held)))

    def test_only_right_cuts_are_read_off(self):
        for many in range(1, 6):
            right = {cuts_of(held): held for held in rising(many - 1)} if many > 1 else {}
            for cuts in product(range(-1, many + 1), repeat=many):
                error = error_of(read_off, cuts)
                if cuts in right:
                    self.assertEqual(right[cuts], read_off(cuts))
                else:
                    self.assertIs(NoCuts, error.__class__, cuts)

    def test_edges(self):
        self.assertEqual((0, 1), borders((0,)))
        self.assertEqual((0,), read_off((0, 1)))
        twelve = tuple(range(12))
        self.assertEqual(tuple(range(13)), borders(twelve))
        self.assertEqual(twelve, read_off(tuple(range(13))))
        self.assertEqual((0,) + (12,) * 12, borders((0,) * 12))
        self.assertEqual((11,) * 12, read_off((0,) * 12 + (12,)))

    def test_wrong_sheets(self):
        for function in (borders, stretches):
            try_wrongs(self, function, ((0, 0, 2),), [(0, NoSheets, WRONG_SHEETS)])

    def test_wrong_cuts(self):
        wrong = wrong_things() + [(0,), (0, 0), (1, 1), (0, 2), (0, 2, 1, 3), [0, 1], (0, True), (False, 1)]
        wrong += [(0, 1, 1), (1, 1, 2), (0, -1, 2), (0, 3, 2), tuple(range(14)), (0, None, 2), (0, nested(list, 39), 2)]
        try_wrongs(self, read_off, ((0, 2, 2),), [(0, NoCuts, wrong)])


class Paths(unittest.TestCase):
    def test_paths_are_the_borders_of_all_moments(self):
        chance = random.Random(8)
        logs = [(3, rows) for rows in all_rows(3, 2)] + [(1, ()), (12, ())]
        for offices, many in ((2, 5), (4, 6), (6, 6), (12, 8)):
            logs += [(offices, some_rows(chance, offices, many)) for _ in range(5)]
        for offices, rows in logs:
            for doing in doings(rows):
                cuts = [cuts_of(held) for held in run(offices, rows, doing)]
                for border in range(offices + 1):
                    path = border_path(Log(offices, rows), doing, border)
                    self.assertEqual([stand[border] for stand in cuts], path)

    def test_wrong(self):
        log = Log(3, ((0, 1, True), (2, 1, False)))
        no_doings = wrong_things() + [(False, True), (True,), [True, True], (1, 0), (True, True, True)]
        errors = [(1, NoDoing, no_doings), (2, NoBorder, wrong_numbers() + [4])]
        try_wrongs(self, border_path, (log, (True, True), 3), errors)

    def test_new_lists(self):
        log = Log(3, ((0, 1, True),))
        border_path(log, (True,), 1).append(5)
        self.assertEqual([1, 0], border_path(log, (True,), 1))
        stretches((0, 0, 2)).clear()
        self.assertEqual([(0, 0, 1), (2, 2, 2)], stretches((0, 0, 2)))


class Stretches(unittest.TestCase):
    def test_all_small_sheets(self):
        for offices in range(1, 6):
            for held in rising(offices):
                found = []
                for edition in range(offices):
                    where = [office for office in range(offices) if held[office] == edition]
                    pair = (min(where), max(where)) if where else None
                    self.assertEqual(pair, stretch(held, edition))
                    found += [(edition,) + pair] if where else []
                self.assertEqual(found, stretches(held))

    def test_edges(self):
        self.assertEqual((0, 0), stretch((0,), 0))
        self.assertEqual((0, 11), stretch((11,) * 12, 11))
        self.assertIsNone(stretch((11,) * 12, 10))
        self.assertEqual([(11, 0, 11)], stretches((11,) * 12))

    def test_wrong(self):
        errors = [(0, NoSheets, WRONG_SHEETS), (1, NoEdition, wrong_numbers() + [3])]
        try_wrongs(self, stretch, ((0, 0, 2), 1), errors)


if __name__ == "__main__":
    unittest.main()
