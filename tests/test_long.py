"""Logs that were returned and have more rows than a log that is constructed."""

import random
import unittest

from oracles import cuts_of, run, some_rows
from takenover.borders import border_path
from takenover.changes import behind, can_follow, loosened, mirrored, repeated, with_row, without
from takenover.errors import NoDoing, NoRow
from takenover.logs import Log, all_sheets, bloodline, idle_done, is_doing, sheets
from wrongs import error_of


class Long(unittest.TestCase):
    def setUp(self):
        chance = random.Random(21)
        base = some_rows(chance, 5, 60)
        self.rows = base * 70 + ((4, 3, True),)
        self.log = with_row(behind(repeated(Log(5, base), 30), repeated(Log(5, base), 40)), 4200, (4, 3, True))
        self.doing = tuple(sure or chance.random() < 0.1 for _, _, sure in self.rows)
        self.moments = run(5, self.rows, self.doing)

    def test_rows_of_what_is_returned(self):
        self.assertEqual(self.rows, self.log.rows)
        self.assertEqual(tuple((4 - x, 4 - y, sure) for x, y, sure in self.rows), mirrored(self.log).rows)
        self.assertEqual(self.rows[:-1], without(self.log, 4200).rows)
        self.assertEqual(self.rows[:100] + self.rows[101:], without(self.log, 100).rows)
        self.assertEqual(tuple((x, y, False) for x, y, _ in self.rows), loosened(self.log).rows)
        self.assertEqual(self.rows * 2, behind(self.log, self.log).rows)
        self.assertEqual(self.rows * 3, repeated(self.log, 3).rows)
        self.assertTrue(with_row(without(self.log, 4200), 4200, (4, 3, True)) == self.log)
        self.assertFalse(without(self.log, 4200) == self.log)

    def test_sixty_and_sixty_one_rows(self):
        log = Log(2, ((0, 1, False),) * 60)
        more = with_row(log, 60, (1, 0, False))
        self.assertEqual(61, len(more.rows))
        self.assertEqual((0, 0), sheets(more, (False,) * 60 + (True,)))
        self.assertEqual(log, without(more, 60))
        self.assertEqual(120, len(repeated(log, 2).rows))

    def test_what_is_told_of_a_doing(self):
        self.assertIs(True, is_doing(self.log, self.doing))
        self.assertIs(False, is_doing(self.log, self.doing[1:]))
        self.assertIs(False, is_doing(self.log, self.doing[:-1] + (False,)))
        self.assertEqual(self.moments, all_sheets(self.log, self.doing))
        self.assertEqual(self.moments[-1], sheets(self.log, self.doing))
        idle = [at for at, done in enumerate(self.doing) if done and self.moments[at] == self.moments[at + 1]]
        self.assertEqual(tuple(idle), idle_done(self.log, self.doing))
        for office in range(5):
            line = bloodline(self.log, self.doing, office)
            self.assertEqual((self.moments[-1][office], office), (line[0], line[-1]))
            self.assertTrue(all(abs(one - other) == 1 for one, other in zip(line, line[1:])))

    def test_border_paths(self):
        cuts = [cuts_of(held) for held in self.moments]
        for border in range(6):
            self.assertEqual([stand[border] for stand in cuts], border_path(self.log, self.doing, border))

    def test_rows_by_their_number(self):
        self.assertEqual(((0, 1, 2, 3, 4), (0, 1, 2, 3, 3)), can_follow(self.log, (0, 1, 2, 3, 4), 4200))
        self.assertIs(NoRow, error_of(can_follow, self.log, (0, 1, 2, 3, 4), 4201).__class__)
        self.assertIs(NoRow, error_of(without, self.log, 4201).__class__)
        self.assertIs(NoRow, error_of(with_row, self.log, 4202, (0, 1, True)).__class__)
        self.assertIs(NoDoing, error_of(sheets, self.log, self.doing[:60]).__class__)


if __name__ == "__main__":
    unittest.main()
