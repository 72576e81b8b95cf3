import random
import unittest

from oracles import cuts_of, run, runs, some_rows, true_in
from samples import with_finds
from takenover.changes import mirrored
from takenover.dated import doing_for, fit, greatest_cuts, is_doing_for, least_cuts, mirrored_finds
from takenover.errors import NoFinds
from takenover.logs import Log
from wrongs import K, NO_FINDS, SURE, try_wrongs, wrong_things

FINDS = [(2, 2, 1), (4, 1, 1)]
SIZES = ((2, 6, 20), (3, 7, 40), (4, 8, 40), (5, 9, 15), (8, 9, 5), (12, 9, 5))


class Fitting(unittest.TestCase):
    def test_all_doings_gone_through(self):
        fits = 0
        for offices, rows, told, finds in with_finds(61, SIZES):
            log = Log(offices, rows)
            right = any(true_in(moments, finds) for moments in told.values())
            fits += right
            self.assertIs(right, fit(log, finds), (rows, finds))
            doing = doing_for(log, tuple(finds))
            self.assertIs(right, doing is not None)
            if right:
                self.assertTrue(true_in(told[doing], finds))
                self.assertIs(True, is_doing_for(log, finds, doing))
        self.assertGreater(fits, 300)

    def test_doings_are_judged(self):
        for offices, rows, told, finds in with_finds(62, ((3, 5, 10), (4, 6, 5))):
            for doing, moments in told.items():
                self.assertIs(true_in(moments, finds), is_doing_for(Log(offices, rows), finds, doing))
        for thing in wrong_things() + [None, (1, 0, 0, 0), [True] * 4, (True,) * 3, (True,) * 5]:
            self.assertIs(False, is_doing_for(K, [], thing))
        self.assertIs(False, is_doing_for(SURE, [], (False,) * 4))
        self.assertIs(True, is_doing_for(SURE, (), (False, False, True, False)))

    def test_sure_rows_mean_something(self):
        finds = [(4, 2, 2)]
        self.assertIs(True, fit(K, finds))
        self.assertIs(False, fit(SURE, finds))
        self.assertIsNone(doing_for(SURE, finds))
        self.assertIs(True, fit(SURE, [(2, 2, 2), (3, 2, 3)]))

    def test_no_finds_and_forty(self):
        for log in (K, SURE, Log(1, ()), Log(12, ())):
            for finds in ([], (), [(0, 0, 0)] * 40, ((0, 0, 0),) * 40, [(0, office, office) for office in range(log.offices)]):
                self.assertIs(True, fit(log, finds))
                self.assertIs(True, is_doing_for(log, finds, doing_for(log, finds)))
        chance = random.Random(63)
        rows = some_rows(chance, 12, 60, (False, False, True))
        doing = tuple(sure or chance.random() < 0.3 for _, _, sure in rows)
        moments = run(12, rows, doing)
        places = [(chance.randint(0, 60), chance.randrange(12)) for _ in range(40)]
        finds = [(moment, office, moments[moment][office]) for moment, office in places]
        self.assertIs(True, fit(Log(12, rows), finds))
        self.assertTrue(true_in(run(12, rows, doing_for(Log(12, rows), finds)), finds))
        self.assertIs(True, is_doing_for(Log(12, rows), finds, doing))

    def test_the_same_find_twice_and_two_at_one_place(self):
        self.assertIs(True, fit(K, [(4, 1, 2), (4, 1, 2)]))
        self.assertIs(False, fit(K, [(4, 1, 2), (4, 1, 1)]))
        self.assertIs(False, fit(K, ((0, 1, 1), (0, 1, 2))))

    def test_first_and_last_moment(self):
        for office in range(4):
            for edition in range(4):
                self.assertIs(office == edition, fit(K, [(0, office, edition)]))
        ends = {moments[-1] for moments in runs(4, K.rows).values()}
        for office in range(4):
            for edition in range(4):
                right = any(held[office] == edition for held in ends)
                self.assertIs(right, fit(K, [(4, office, edition)]))
        self.assertIs(True, fit(Log(1, ()), [(0, 0, 0)]))


class Cuts(unittest.TestCase):
    def test_all_doings_gone_through(self):
        for offices, rows, told, finds in with_finds(64, ((2, 6, 10), (3, 7, 20), (4, 7, 20), (5, 8, 10), (12, 8, 2))):
            log = Log(offices, rows)
            stands = [[cuts_of(held) for held in moments] for moments in told.values() if true_in(moments, finds)]
            for function, choose in ((least_cuts, min), (greatest_cuts, max)):
                if not stands:
                    self.assertIsNone(function(log, finds))
                    continue
                right = tuple(tuple(choose(column) for column in zip(*at)) for at in zip(*stands))
                self.assertEqual(right, function(log, finds))

    def test_without_rows(self):
        self.assertEqual(((0, 1),), least_cuts(Log(1, ()), []))
        self.assertEqual((tuple(range(13)),), greatest_cuts(Log(12, ()), ((0, 0, 0),)))
        self.assertIsNone(greatest_cuts(Log(2, ()), [(0, 0, 1)]))
        self.assertIsNone(least_cuts(Log(2, ()), [(0, 0, 1)]))


class Mirrors(unittest.TestCase):
    def test_finds_from_the_other_end(self):
        self.assertEqual([(2, 1, 2), (4, 2, 2)], mirrored_finds(K, FINDS))
        self.assertEqual([(2, 1, 2), (4, 2, 2)], mirrored_finds(K, tuple(FINDS)))
        self.assertEqual([], mirrored_finds(K, ()))
        self.assertEqual([(0, 11, 0)], mirrored_finds(Log(12, ()), [(0, 0, 11)]))

    def test_mirrored_finds_fit_the_mirrored_log(self):
        for offices, rows, _, finds in with_finds(65, ((3, 5, 5), (5, 7, 5))):
            log = Log(offices, rows)
            self.assertIs(fit(log, finds), fit(mirrored(log), mirrored_finds(log, finds)))


class Wrongs(unittest.TestCase):
    def test_no_finds(self):
        for log in (K, SURE):
            for function in (fit, doing_for, least_cuts, greatest_cuts, mirrored_finds):
                try_wrongs(self, function, (log, FINDS), [(1, NoFinds, NO_FINDS)])
                try_wrongs(self, function, (log, tuple(FINDS)), [(1, NoFinds, NO_FINDS)])
            for thing in (None, (True,) * 4, (False, False, True, False)):
                try_wrongs(self, is_doing_for, (log, FINDS, thing), [(1, NoFinds, NO_FINDS)])

    def test_arguments_stay_and_lists_are_new(self):
        rows, finds = tuple(list(K.rows)), list(FINDS)
        for function in (fit, doing_for, least_cuts, greatest_cuts, mirrored_finds):
            self.assertEqual(function(K, finds), function(Log(4, K.rows), list(FINDS)))
        is_doing_for(K, finds, doing_for(K, finds))
        self.assertEqual((FINDS, rows), (finds, K.rows))
        self.assertIsNot(mirrored_finds(K, finds), mirrored_finds(K, finds))
        mirrored_finds(K, finds).clear()
        self.assertEqual(2, len(mirrored_finds(K, finds)))


if __name__ == "__main__":
    unittest.main()
