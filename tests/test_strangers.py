import random
import unittest

from oracles import run, some_rows, there_at, true_in
from samples import with_finds
from takenover.changes import behind, repeated
from takenover.dated import fit
from takenover.errors import NoAnswer, NoFinds, NoMoments, NoRow
from takenover.logs import Log
from takenover.strangers import finds_of, refuted
from wrongs import K, SURE, error_of, nested, try_wrongs, wrong_but, wrong_numbers

SIZES = ((1, 0, 3), (2, 6, 20), (3, 7, 30), (4, 8, 30), (5, 9, 8), (8, 9, 3))
NO_MOMENTS = wrong_but([(), (0,)]) + [(5,), (-1,), (0, 0), (1, 0), (0, 2, 1), (0, 1, 5), [0, 1], (True,), (0, True), (None,)]
NO_MOMENTS += [("0",), ((0,),), (0, (1,)), (0, nested(tuple, 38)), {0: 1}, range(3), iter((0, 1)), (10 ** 39,), (False,)]
NO_MOMENTS += [(Log(1, ()),), (False, 1), (4, 5), (0, 1, 1)]


class Teller:
    """A stranger that tells what it holds of some moments, but for some lies, and keeps what it is asked."""

    def __init__(self, moments, lies=()):
        self.moments = moments
        self.lies = dict(lies)
        self.asked = []

    def __call__(self, moment, office):
        self.asked.append((moment, office))
        return self.lies.get((moment, office), self.moments[moment][office])


def silent(moment, office):
    """A stranger that must not be asked."""
    raise AssertionError("asked")


class Told(unittest.TestCase):
    def judge(self, log, teller, moments, fits):
        """Judge the finds that a stranger tells, and how many of them do not fit, and return this."""
        right = [(moment, office, teller.lies.get((moment, office), teller.moments[moment][office]))
                 for moment in moments for office in range(log.offices)]
        for function in (finds_of, refuted):
            teller.asked.clear()
            told = function(log, teller, moments)
            self.assertEqual([(moment, office) for moment, office, _ in right], teller.asked)
            if function is finds_of:
                self.assertEqual(right, told)
                self.assertIs(list, told.__class__)
            else:
                least = next((many for many in range(1, len(right) + 1) if not fits(right[:many])), None)
                self.assertEqual(least, told)
        return least

    def test_all_doings_gone_through(self):
        source = random.Random(241)
        found = set()
        for offices, rows, told, _ in with_finds(242, SIZES):
            log = Log(offices, rows)
            base = source.choice(list(told.values()))
            moments = tuple(sorted(source.sample(range(len(rows) + 1), source.randint(0, len(rows) + 1))))
            lies = {(source.randint(0, len(rows)), source.randrange(offices)): source.randrange(offices)
                    for _ in range(source.choice((0, 1, 3)))}
            found.add(self.judge(log, Teller(base, lies), moments,
                                 lambda finds: any(true_in(one, finds) for one in told.values())))
        self.assertLess({None, 1, 2, 3, 4, 5}, found)

    def test_no_moments_and_all_moments(self):
        self.assertEqual(([], None), (finds_of(K, silent, ()), refuted(K, silent, ())))
        for offices in (1, 12):
            log = Log(offices, ())
            told = [(0, office, office) for office in range(offices)]
            self.assertEqual(told, finds_of(log, lambda moment, office: office, (0,)))
            self.assertIsNone(refuted(log, lambda moment, office: office, (0,)))
        self.assertEqual(2, refuted(Log(2, ()), lambda moment, office: 0, (0,)))
        self.assertEqual(1, refuted(Log(2, ()), lambda moment, office: 1, (0,)))
        self.assertIsNone(refuted(Log(1, ()), lambda moment, office: 0, (0,)))

    def test_more_than_forty_finds(self):
        source = random.Random(243)
        found = []
        for sures in ((False,), (False,) * 6 + (True,)):
            for offices, times, few in ((12, 1, 12), (5, 1, 61), (3, 20, 90), (5, 5, 40)):
                base = some_rows(source, offices, 60, sures)
                log = behind(repeated(Log(offices, base), times - 1), Log(offices, base))
                rows = log.rows
                doing = tuple(sure or source.random() < 0.1 for _, _, sure in rows)
                told = run(offices, rows, doing)
                moments = tuple(sorted(source.sample(range(len(rows) + 1), few)))
                self.assertIsNone(refuted(log, Teller(told), moments))
                finds = finds_of(log, Teller(told), moments)
                self.assertEqual(few * offices, len(finds))
                self.assertIs(NoFinds, error_of(fit, log, finds).__class__)
                self.assertIs(True, fit(log, finds[:40]))
                for _ in range(3):
                    lies = {(source.choice(moments), source.randrange(offices)): source.randrange(offices)}
                    teller = Teller(told, lies)
                    many = refuted(log, teller, moments)
                    found.append(many is None)
                    finds = finds_of(log, teller, moments)
                    if offices < 12:
                        self.assertIs(many is None, bool(there_at(offices, rows, finds)[0]))
                        if many is not None:
                            self.assertFalse(there_at(offices, rows, finds[:many])[0])
                            self.assertTrue(there_at(offices, rows, finds[:many - 1])[0])
        self.assertEqual({True, False}, set(found))

    def test_all_moments_of_a_log(self):
        for log in (K, SURE):
            for held in ((0, 1, 2, 3), (0, 0, 3, 3)):
                finds = finds_of(log, lambda moment, office: held[office], tuple(range(5)))
                self.assertEqual([(moment, office, held[office]) for moment in range(5) for office in range(4)], finds)
        self.assertEqual(None, refuted(K, lambda moment, office: office, tuple(range(5))))
        self.assertEqual(15, refuted(SURE, lambda moment, office: office, tuple(range(5))))


class Wrongs(unittest.TestCase):
    def test_no_moments(self):
        for log in (K, SURE):
            for thing in NO_MOMENTS:
                for function in (finds_of, refuted):
                    self.assertIs(NoMoments, error_of(function, log, silent, thing).__class__, thing)
        for function in (finds_of, refuted):
            try_wrongs(self, function, (K, lambda moment, office: office, (0, 4)), [(2, NoMoments, NO_MOMENTS)])

    def test_no_answers(self):
        for thing in wrong_numbers() + [4, -2]:
            for function in (finds_of, refuted):
                for place in ((0, 0), (0, 3), (2, 1), (4, 3)):
                    teller = Teller([(0, 1, 2, 3)] * 5, {place: thing})
                    error = error_of(function, K, teller, (0, 2, 4))
                    self.assertEqual((NoAnswer, place), (error.__class__, (error.moment, error.office)))
                    pairs = [(moment, office) for moment in (0, 2, 4) for office in range(4)]
                    self.assertEqual(pairs[:pairs.index(place) + 1], teller.asked)

    def test_finds_that_cannot_be_are_looked_at_behind_all_answers(self):
        teller = Teller([(3, 2, 1, 0)] * 5, {(4, 3): None})
        error = error_of(refuted, K, teller, (0, 4))
        self.assertEqual((NoAnswer, 4, 3, 8), (error.__class__, error.moment, error.office, len(teller.asked)))

    def test_errors_of_the_stranger_go_on(self):
        class Other(BaseException):
            pass

        for error in (Other(), ValueError("one"), NoRow(), NoAnswer(9, 9), StopIteration(), KeyError(1), NoMoments()):
            asked = []

            def stranger(moment, office):
                asked.append((moment, office))
                if (moment, office) == (1, 2):
                    raise error
                return office

            for function in (finds_of, refuted):
                asked.clear()
                try:
                    function(K, stranger, (0, 1, 3))
                    self.fail("no error went on")
                except BaseException as raised:
                    self.assertIs(error, raised)
                self.assertEqual([(0, 0), (0, 1), (0, 2), (0, 3), (1, 0), (1, 1), (1, 2)], asked)

    def test_lists_are_new_and_arguments_stay(self):
        rows, moments = tuple(list(K.rows)), (0, 2)
        finds = finds_of(K, lambda moment, office: office, moments)
        kept = list(finds)
        finds.clear()
        self.assertEqual(kept, finds_of(K, lambda moment, office: office, moments))
        self.assertEqual((rows, (0, 2)), (K.rows, moments))


if __name__ == "__main__":
    unittest.main()
