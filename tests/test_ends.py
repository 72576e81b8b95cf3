import random
import unittest

from oracles import all_rows, finals, finals_led_on, some_rows
from takenover.changes import behind, repeated
from takenover.ends import can_be_alone, can_come, can_hold, fewest_apart, gone, most_apart
from takenover.errors import NoEdition, NoOffice, TooMany
from takenover.logs import Log
from wrongs import K, SURE, error_of, try_wrongs, wrong_numbers

MIXED = ((False,), (False, True), (False, False, False, True))


def with_ends():
    """Return logs, with all sheets that can be there at the last moment."""
    chance = random.Random(81)
    found = [(1, ()), (2, ()), (8, ())] + [(3, rows) for rows in all_rows(3, 2)]
    for offices, many, times in ((2, 5, 5), (3, 7, 10), (4, 8, 10), (5, 9, 5), (8, 10, 2), (12, 10, 1)):
        for sures in MIXED:
            found += [(offices, some_rows(chance, offices, many, sures)) for _ in range(times)]
    return [(offices, rows, finals(offices, rows)) for offices, rows in found]


class Ends(unittest.TestCase):
    def judge(self, log, ends):
        offices = range(log.offices)
        for office in offices:
            self.assertEqual(tuple(sorted({held[office] for held in ends})), can_hold(log, office))
            holders = {one for held in ends for one in offices if held[one] == office}
            self.assertEqual(tuple(sorted(holders)), can_come(log, office))
        self.assertEqual(tuple(e for e in offices if not any(e in held for held in ends)), gone(log))
        self.assertEqual(tuple(e for e in offices if (e,) * log.offices in ends), can_be_alone(log))
        if log.offices <= 8:
            numbers = [len(set(held)) for held in ends]
            self.assertEqual(max(numbers), most_apart(log))
            self.assertEqual(min(numbers), fewest_apart(log))

    def test_all_doings_gone_through(self):
        for offices, rows, ends in with_ends():
            self.judge(Log(offices, rows), ends)

    def test_sixty_rows(self):
        chance = random.Random(82)
        for sures in MIXED:
            for offices in (2, 5, 6):
                rows = some_rows(chance, offices, 60, sures)
                self.judge(Log(offices, rows), finals_led_on(offices, rows))

    def test_more_than_sixty_rows(self):
        chance = random.Random(83)
        for sures in MIXED:
            for offices in (3, 5):
                rows = some_rows(chance, offices, 60, sures)
                more = some_rows(chance, offices, 7, (False,))
                log = behind(repeated(Log(offices, rows), 20), Log(offices, more))
                self.judge(log, finals_led_on(offices, rows * 20 + more))

    def test_one_office_and_twelve(self):
        one, twelve = Log(1, ()), Log(12, ())
        self.assertEqual(((0,), (0,), (), (0,), 1, 1), (can_hold(one, 0), can_come(one, 0), gone(one),
                                                       can_be_alone(one), most_apart(one), fewest_apart(one)))
        for number in range(12):
            self.assertEqual(((number,), (number,)), (can_hold(twelve, number), can_come(twelve, number)))
        self.assertEqual(((), ()), (gone(twelve), can_be_alone(twelve)))
        on = Log(12, tuple((x, x - 1, True) for x in range(1, 12)))
        self.assertEqual((tuple(range(1, 12)), (0,)), (gone(on), can_be_alone(on)))
        self.assertEqual(((0,), tuple(range(12)), ()), (can_hold(on, 11), can_come(on, 0), can_come(on, 11)))

    def test_what_sheets_need_not_be_together(self):
        # Each office alone can hold the edition, but the last sure row leads another one on.
        log = Log(3, ((0, 1, False), (2, 1, False), (1, 0, True)))
        self.assertEqual(((0, 1), (0, 1), (1, 2)), tuple(can_hold(log, office) for office in range(3)))
        self.assertEqual((1,), can_be_alone(log))
        self.assertEqual((2, 1), (most_apart(log), fewest_apart(log)))

    def test_too_many_offices(self):
        for function in (most_apart, fewest_apart):
            for offices in range(1, 9):
                self.assertEqual(offices, function(Log(offices, ())))
            for offices in range(9, 13):
                error = error_of(function, Log(offices, ()))
                self.assertEqual((TooMany, 8), (error.__class__, error.most))


class Wrongs(unittest.TestCase):
    def test_wrong_numbers(self):
        for log in (K, SURE):
            try_wrongs(self, can_hold, (log, 1), [(1, NoOffice, wrong_numbers() + [4, -2])])
            try_wrongs(self, can_come, (log, 1), [(1, NoEdition, wrong_numbers() + [4, -2])])
        self.assertIs(NoOffice, error_of(can_hold, Log(1, ()), 1).__class__)
        self.assertIs(NoEdition, error_of(can_come, Log(12, ()), 12).__class__)

    def test_equal_calls_give_equal_answers(self):
        rows = tuple(list(K.rows))
        for function in (gone, can_be_alone, most_apart, fewest_apart):
            self.assertEqual(function(K), function(Log(4, rows)))
            self.assertEqual(function(K), function(K))
        self.assertEqual((4, rows), (K.offices, K.rows))


if __name__ == "__main__":
    unittest.main()
