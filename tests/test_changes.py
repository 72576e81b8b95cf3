import random
import unittest

from oracles import rising, run, some_rows
from takenover.changes import behind, can_follow, loosened, mirrored, repeated, with_row, without
from takenover.errors import BadRow, NoNumber, NoRow, NoSheets, OtherOffices
from takenover.logs import Log, all_sheets
from wrongs import error_of, nested, try_wrongs, wrong_numbers, wrong_things

K = Log(4, ((1, 0, False), (2, 1, True), (2, 3, False), (1, 2, False)))
EMPTY = Log(1, ())


class Changes(unittest.TestCase):
    def test_behind_has_the_rows_of_the_one_first(self):
        other = Log(4, ((3, 2, True), (0, 1, False)))
        self.assertEqual(Log(4, K.rows + other.rows), behind(K, other))
        self.assertEqual(Log(4, other.rows + K.rows), behind(other, K))
        self.assertEqual(EMPTY, behind(EMPTY, EMPTY))

    def test_behind_wants_as_many_offices(self):
        for other in (Log(3, ()), Log(5, K.rows), EMPTY, Log(12, ())):
            self.assertIs(OtherOffices, error_of(behind, K, other).__class__)
            self.assertIs(OtherOffices, error_of(behind, other, K).__class__)
        self.assertEqual(K, behind(K, Log(4, ())))

    def test_repeated(self):
        for times in (0, 1, 2, 7, 15):
            self.assertEqual(Log(4, K.rows * times), repeated(K, times))
        self.assertEqual(400, len(repeated(K, 100).rows))
        self.assertEqual(EMPTY, repeated(EMPTY, 100))
        try_wrongs(self, repeated, (K, 3), [(1, NoNumber, wrong_things() + [101, 10 ** 39, (3,), "3", [3]])])

    def test_mirrored(self):
        self.assertEqual(Log(4, ((2, 3, False), (1, 2, True), (1, 0, False), (2, 1, False))), mirrored(K))
        self.assertEqual(K, mirrored(mirrored(K)))
        self.assertEqual(EMPTY, mirrored(EMPTY))
        self.assertEqual(Log(12, ((0, 1, True),)), mirrored(Log(12, ((11, 10, True),))))

    def test_mirrored_leads_sheets_to_their_mirror(self):
        chance = random.Random(3)
        for offices in (2, 3, 5, 12):
            rows = some_rows(chance, offices, 9, (False,))
            doing = tuple(chance.random() < 0.5 for _ in rows)
            straight = run(offices, rows, doing)
            turned = [tuple(offices - 1 - edition for edition in held[::-1]) for held in straight]
            self.assertEqual(turned, all_sheets(mirrored(Log(offices, rows)), doing))

    def test_without(self):
        for row in range(4):
            self.assertEqual(Log(4, K.rows[:row] + K.rows[row + 1:]), without(K, row))
        self.assertEqual(Log(2, ()), without(Log(2, ((0, 1, True),)), 0))
        self.assertIs(NoRow, error_of(without, EMPTY, 0).__class__)
        try_wrongs(self, without, (K, 3), [(1, NoRow, wrong_numbers() + [4, (1,), "1"])])

    def test_with_row(self):
        row = (3, 2, True)
        for at in range(5):
            self.assertEqual(Log(4, K.rows[:at] + (row,) + K.rows[at:]), with_row(K, at, row))
        self.assertEqual(Log(2, ((0, 1, False),)), with_row(Log(2, ()), 0, (0, 1, False)))
        self.assertIs(NoRow, error_of(with_row, Log(2, ()), 1, (0, 1, False)).__class__)
        self.assertIs(BadRow, error_of(with_row, EMPTY, 0, (0, 1, False)).__class__)
        wrong = [(3, 4, True), (1, 3, True), (1, 1, True), (1, 0, 1), [1, 0, True], (1, 0), (True, 0, False)]
        wrong += [(1, 0, True, True), (1, False, True), (nested(tuple, 35), 0, True), (1, nested(list, 38), True)]
        errors = [(1, NoRow, wrong_numbers() + [5, (1,)]), (2, BadRow, wrong_things() + wrong)]
        try_wrongs(self, with_row, (K, 4, row), errors)

    def test_loosened(self):
        rows = tuple((x, y, False) for x, y, _ in K.rows)
        self.assertEqual(rows, loosened(K).rows)
        self.assertEqual(Log(4, rows), loosened(loosened(K)))
        self.assertEqual(EMPTY, loosened(EMPTY))

    def test_arguments_stay(self):
        rows = tuple(list(K.rows))
        behind(K, K), repeated(K, 2), mirrored(K), without(K, 0), with_row(K, 0, K.rows[0]), loosened(K)
        self.assertEqual((4, rows), (K.offices, K.rows))

    def test_what_is_made_has_the_two_attributes_alone(self):
        for log in (behind(K, K), repeated(K, 20), mirrored(K), without(K, 0), with_row(K, 0, K.rows[0]), loosened(K)):
            self.assertEqual(["offices", "rows"], sorted(vars(log)))
            self.assertIs(tuple, log.rows.__class__)
            self.assertIs(Log, log.__class__)


class Following(unittest.TestCase):
    def test_sheets_over_each_row(self):
        chance = random.Random(5)
        for offices in (2, 3, 4, 5):
            log = Log(offices, some_rows(chance, offices, 8))
            for editions in rising(offices):
                for number, (x, y, _) in enumerate(log.rows):
                    copied = list(editions)
                    copied[x] = editions[y]
                    self.assertEqual((editions, tuple(copied)), can_follow(log, editions, number))

    def test_sure_rows_are_told_of_too(self):
        self.assertEqual(((0, 1, 2, 3), (0, 1, 1, 3)), can_follow(K, (0, 1, 2, 3), 1))

    def test_wrong(self):
        wrong = [(0, 1, 2), (0, 1, 2, 3, 3), (0, 1, 2, 4), (1, 0, 2, 3), (0, 0, 0, -1), [0, 1, 2, 3], (0, 1, 2, True)]
        wrong += [(False, 1, 2, 3), (0, 1, 2, None), (0, 1, 3, 2), ("0", 1, 2, 3), (0, 1, 2, nested(tuple, 39))]
        errors = [(1, NoSheets, wrong_things() + wrong), (2, NoRow, wrong_numbers() + [4])]
        try_wrongs(self, can_follow, (K, (0, 0, 2, 3), 1), errors)
        self.assertIs(NoRow, error_of(can_follow, EMPTY, (0,), 0).__class__)
        self.assertIs(NoSheets, error_of(can_follow, EMPTY, (), 0).__class__)


if __name__ == "__main__":
    unittest.main()
