import random
import unittest

from oracles import all_rows, doings, row_choices, run, runs, some_rows
from takenover.errors import BadLog, NoDoing, NoOffice
from takenover.logs import Log, all_sheets, bloodline, idle_done, is_doing, sheets
from wrongs import error_of, nested, try_wrongs, wrong_numbers, wrong_things

K = Log(4, ((1, 0, False), (2, 1, False), (2, 3, False), (1, 2, False)))
DONE = (True, False, True, False)


def lines(offices, rows, doing):
    """Return the bloodlines of all offices, each copied with its sheet."""
    held = [(office,) for office in range(offices)]
    for (x, y, _), done in zip(rows, doing):
        if done:
            held[x] = held[y] + (x,)
    return held


class Constructing(unittest.TestCase):
    def test_attributes(self):
        rows = ((1, 0, True), (0, 1, False))
        log = Log(2, rows)
        self.assertEqual({"offices": 2, "rows": rows}, vars(log))

    def test_edges_are_let(self):
        self.assertEqual((), Log(1, ()).rows)
        self.assertEqual(12, Log(12, ((11, 10, False), (0, 1, True))).offices)
        self.assertEqual(60, len(Log(2, ((0, 1, True),) * 60).rows))
        for offices in range(1, 13):
            for row in row_choices(offices):
                self.assertEqual((row,), Log(offices, (row,)).rows)

    def part(self, *args):
        error = error_of(Log, *args)
        self.assertIs(BadLog, error.__class__, args)
        return error.part

    def test_wrong_offices(self):
        for thing in wrong_numbers() + [0, 13, (4,)]:
            self.assertEqual("offices", self.part(thing, ()))
            self.assertEqual("offices", self.part(thing, [(5, 5)]))

    def test_wrong_rows(self):
        for thing in wrong_things():
            if thing != () and not (isinstance(thing, tuple) and len(thing) <= 60):
                self.assertEqual("rows", self.part(4, thing))
        self.assertEqual("rows", self.part(2, ((0, 1, True),) * 61))
        self.assertEqual("rows", self.part(2, (None,) * 61))
        self.assertEqual("rows", self.part(2, [(0, 1, True)]))

    def test_wrong_row_is_named_by_its_number(self):
        wrong = [(1, 1, False), (0, 2, False), (3, 4, False), (4, 3, False), (0, -1, False), (-1, 0, False)]
        wrong += [(1, 0, 0), (1, 0, 1), (1, 0, None), (1, False, False), (True, 0, False), (1, 0), (1, 0, False, 0)]
        wrong += [[1, 0, False], ("1", "0", False), (1, 0, nested(tuple, 37)), (nested(list, 37), 0, True)]
        wrong += [(10 ** 39, 10 ** 39 + 1, False), "10f", (Log(1, ()), 0, True), (None, None, None)]
        for thing in wrong + wrong_things():
            self.assertEqual(0, self.part(4, (thing,)))
            self.assertEqual(1, self.part(4, ((1, 0, True), thing, (1, 0, True))))
            self.assertEqual(59, self.part(4, ((1, 0, True),) * 59 + (thing,)))
            self.assertEqual(0, self.part(4, (thing, thing)))
        self.assertEqual(0, self.part(1, ((0, 1, False),)))
        self.assertEqual(0, self.part(2, ((1, 2, False),)))

    def test_right_rows_are_let_behind_a_refused_log(self):
        self.part(0, ())
        self.assertEqual(K, Log(4, K.rows))

    def test_equal_just_if_both_parts_are(self):
        self.assertTrue(K == Log(4, tuple(list(K.rows))))
        self.assertFalse(K != Log(4, K.rows))
        others = [Log(5, K.rows), Log(4, K.rows[1:]), Log(4, K.rows[::-1]), Log(4, K.rows[:3] + ((1, 2, True),))]
        for other in others + wrong_things() + [(4, K.rows), {"offices": 4, "rows": K.rows}]:
            self.assertFalse(K == other)
            self.assertTrue(K != other)
            self.assertFalse(other == K)


class Doings(unittest.TestCase):
    def test_every_tuple_of_flags(self):
        for rows in all_rows(3, 2) + all_rows(2, 3):
            log = Log(3, rows)
            right = doings(rows)
            every = doings([(0, 1, False)] * (len(rows) + 1)) + doings([(0, 1, False)] * len(rows))
            for thing in every + doings([(0, 1, False)]):
                self.assertIs(thing in right, is_doing(log, thing))

    def test_what_is_no_doing(self):
        wrong = [thing for thing in wrong_things() if thing != (True,) and thing != (False,)]
        for thing in wrong + [(1,), (0,), [True], [False], (True, True), (None,)]:
            self.assertIs(False, is_doing(Log(2, ((0, 1, False),)), thing))
        self.assertIs(True, is_doing(Log(1, ()), ()))
        self.assertIs(False, is_doing(Log(1, ()), []))
        self.assertIs(False, is_doing(Log(2, ((0, 1, True),)), (False,)))
        self.assertIs(True, is_doing(Log(2, ((0, 1, True),)), (True,)))


class Sheets(unittest.TestCase):
    def logs(self):
        chance = random.Random(11)
        found = [Log(3, rows) for rows in all_rows(3, 2)] + [Log(1, ()), Log(12, ())]
        for offices, many in ((2, 5), (4, 6), (5, 7), (6, 6), (12, 7)):
            found += [Log(offices, some_rows(chance, offices, many)) for _ in range(6)]
        return found

    def test_sheets_are_copied_row_by_row(self):
        for log in self.logs():
            for doing, moments in runs(log.offices, log.rows).items():
                self.assertEqual(moments, all_sheets(log, doing))
                self.assertEqual(moments[-1], sheets(log, doing))

    def test_bloodlines_come_with_the_sheets(self):
        for log in self.logs():
            for doing in doings(log.rows):
                told = [bloodline(log, doing, office) for office in range(log.offices)]
                self.assertEqual(lines(log.offices, log.rows, doing), told)

    def test_a_bloodline_may_come_back(self):
        log = Log(2, ((1, 0, False), (0, 1, False)))
        self.assertEqual((0, 1, 0), bloodline(log, (True, True), 0))
        self.assertEqual((1, 0), bloodline(log, (False, True), 0))

    def test_an_idle_copy_stands_in_the_bloodline_too(self):
        log = Log(2, ((1, 0, False), (1, 0, False)))
        self.assertEqual((0, 1), bloodline(log, (True, True), 1))
        log = Log(3, ((1, 0, False), (2, 1, False), (1, 2, False)))
        self.assertEqual((0, 1, 2, 1), bloodline(log, (True, True, True), 1))

    def test_idle_rows_were_done_and_changed_nothing(self):
        for log in self.logs():
            for doing in doings(log.rows):
                moments = run(log.offices, log.rows, doing)
                idle = [at for at in range(len(doing)) if doing[at] and moments[at] == moments[at + 1]]
                self.assertEqual(tuple(idle), idle_done(log, doing))
        self.assertEqual((1, 2), idle_done(Log(2, ((1, 0, False), (1, 0, True), (0, 1, False))), (True,) * 3))

    def test_tuples_and_new_lists(self):
        self.assertEqual((0, 0, 3, 3), sheets(K, DONE))
        one, other = all_sheets(K, DONE), all_sheets(K, DONE)
        self.assertIsNot(one, other)
        one.clear()
        self.assertEqual(5, len(other))
        self.assertEqual(other, all_sheets(K, DONE))

    def test_without_rows(self):
        self.assertEqual((0,), sheets(Log(1, ()), ()))
        self.assertEqual([(0,)], all_sheets(Log(1, ()), ()))
        self.assertEqual((0,), bloodline(Log(1, ()), (), 0))
        self.assertEqual((), idle_done(Log(1, ()), ()))
        self.assertEqual(tuple(range(12)), sheets(Log(12, ()), ()))


class Wrongs(unittest.TestCase):
    def setUp(self):
        sure = Log(4, K.rows[:3] + ((1, 2, True),))
        self.cases = [(K, DONE), (sure, (True, False, True, True))]
        near = [(1, 0, 1, 0), [True, False, True, True], (True,) * 3, (True,) * 5, (True, True, True, None)]
        self.no_doings = wrong_things() + near

    def test_no_doing(self):
        for log, doing in self.cases:
            for function in (sheets, all_sheets, idle_done):
                try_wrongs(self, function, (log, doing), [(1, NoDoing, self.no_doings)])
        self.assertIsInstance(error_of(sheets, self.cases[1][0], DONE), NoDoing)

    def test_no_doing_ahead_of_no_office(self):
        for log, doing in self.cases:
            errors = [(1, NoDoing, self.no_doings), (2, NoOffice, wrong_numbers() + [4, (0,), "1"])]
            try_wrongs(self, bloodline, (log, doing, 3), errors)

    def test_arguments_stay(self):
        rows = tuple(list(K.rows))
        for function in (is_doing, sheets, all_sheets, idle_done):
            function(K, DONE)
        bloodline(K, DONE, 1)
        self.assertEqual((4, rows), (K.offices, K.rows))
        self.assertEqual((True, False, True, False), DONE)


if __name__ == "__main__":
    unittest.main()
