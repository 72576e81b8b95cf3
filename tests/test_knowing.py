import random
import unittest

from oracles import run, some_rows, there_at, true_in
from samples import with_finds
from takenover.changes import behind, repeated
from takenover.errors import NoEdition, NoFinds, NoOffice, NoPair
from takenover.knowing import both_held, moments_held
from takenover.logs import Log
from wrongs import K, NO_FINDS, SURE, error_of, nested, try_wrongs, wrong_but, wrong_numbers

SIZES = ((1, 0, 3), (2, 6, 20), (3, 7, 40), (4, 8, 30), (5, 9, 10), (8, 9, 3), (12, 9, 2))
FINDS = [(2, 2, 1), (4, 1, 1)]
NO_PAIRS = wrong_but([(0, 0)]) + [(4, 0), (0, 4), (-1, 0), (0, -1), (True, 0), (0, False), [0, 0], (0,), (0, 0, 0), "00"]
NO_PAIRS += [(None, 0), (0, None), (0, "0"), (nested(tuple, 38), 0), (0, 10 ** 39), ((0, 0),), {0: 0}, (Log(1, ()), 0)]


class Moments(unittest.TestCase):
    def test_all_doings_gone_through(self):
        for offices, rows, told, finds in with_finds(151, SIZES):
            right = [moments for moments in told.values() if true_in(moments, finds)]
            log = Log(offices, rows)
            for office in range(offices):
                for edition in range(offices):
                    held = [at for at in range(len(rows) + 1) if any(moments[at][office] == edition for moments in right)]
                    self.assertEqual(held, moments_held(log, tuple(finds), office, edition))

    def test_no_rows_and_finds_that_no_doing_has(self):
        for office in range(12):
            self.assertEqual([0], moments_held(Log(12, ()), [], office, office))
            self.assertEqual([], moments_held(Log(12, ()), [(0, 3, 3)], office, (office + 1) % 12))
            self.assertEqual([], moments_held(Log(12, ()), [(0, 3, 4)], office, office))
        self.assertEqual([0], moments_held(Log(1, ()), [], 0, 0))

    def test_sixty_rows_and_more(self):
        chance = random.Random(152)
        for offices, times in ((5, 1), (6, 1), (5, 5), (3, 50)):
            base = some_rows(chance, offices, 60, (False,) * 9 + (True,))
            log = behind(repeated(Log(offices, base), times), Log(offices, base[:3]))
            moments = run(offices, log.rows, tuple(sure or chance.random() < 0.1 for _, _, sure in log.rows))
            for many in (0, 2, 40):
                places = [(chance.randint(0, len(log.rows)), chance.randrange(offices)) for _ in range(many)]
                finds = [(moment, office, moments[moment][office]) for moment, office in places]
                there = there_at(offices, log.rows, finds)
                for office in range(offices):
                    for edition in range(offices):
                        right = [at for at, some in enumerate(there) if any(held[office] == edition for held in some)]
                        self.assertEqual(right, moments_held(log, finds, office, edition))

    def test_twelve_offices_and_forty_finds(self):
        chance = random.Random(153)
        rows = some_rows(chance, 12, 60, (False, False, False, True))
        moments = run(12, rows, tuple(sure or chance.random() < 0.3 for _, _, sure in rows))
        places = [(chance.randint(0, 60), chance.randrange(12)) for _ in range(40)]
        finds = [(moment, office, moments[moment][office]) for moment, office in places]
        for office in range(12):
            for edition in range(12):
                held = moments_held(Log(12, rows), finds, office, edition)
                self.assertLessEqual({at for at in range(61) if moments[at][office] == edition}, set(held))
                shown = {(moment, one, other) for moment, one, other in finds if one == office}
                self.assertFalse([at for at in held if any(at == moment and other != edition
                                                           for moment, _, other in shown)])
        for moment, office, edition in finds:
            self.assertEqual((0, 0), both_held(Log(12, rows), finds, (0, 0), (0, 0)))
            self.assertIn(moment, moments_held(Log(12, rows), finds, office, edition))


class Both(unittest.TestCase):
    def test_all_doings_gone_through(self):
        chance = random.Random(154)
        answers = {None: 0, False: 0, True: 0}
        for offices, rows, told, finds in with_finds(155, SIZES):
            right = [moments for moments in told.values() if true_in(moments, finds)]
            log = Log(offices, rows)
            for _ in range(8):
                one, other = [(chance.randrange(offices), chance.randrange(offices)) for _ in range(2)]
                pairs = set()
                for moments in right:
                    first = [at for at, held in enumerate(moments) if held[one[0]] == one[1]]
                    second = [at for at, held in enumerate(moments) if held[other[0]] == other[1]]
                    if first and second:
                        pairs.add((first[0], second[0]))
                least = min(pairs) if pairs else None
                answers[None if least is None else least[0] <= least[1]] += 1
                self.assertEqual(least, both_held(log, tuple(finds), one, other), (rows, finds, one, other))
        self.assertGreater(min(answers.values()), 50)

    def test_the_same_pair_and_two_editions_of_one_office(self):
        self.assertEqual((0, 0), both_held(K, [], (2, 2), (2, 2)))
        self.assertEqual((2, 2), both_held(K, [], (2, 1), (2, 1)))
        self.assertEqual((0, 3), both_held(K, [], (2, 2), (2, 3)))
        self.assertEqual((3, 0), both_held(K, [], (2, 3), (2, 2)))
        self.assertEqual((0, 0), both_held(Log(1, ()), [], (0, 0), (0, 0)))
        self.assertEqual((0, 0), both_held(Log(12, ()), [], (0, 0), (11, 11)))
        self.assertIsNone(both_held(Log(12, ()), [], (0, 0), (11, 10)))
        self.assertIsNone(both_held(K, [(0, 0, 1)], (0, 0), (0, 0)))

    def test_what_can_be_alone_but_not_both(self):
        log = Log(2, ((0, 1, False), (1, 0, False)) * 30)
        self.assertEqual(([1, 2, 3], [2, 3, 4]), (moments_held(log, [], 0, 1)[:3], moments_held(log, [], 1, 0)[:3]))
        self.assertIsNone(both_held(log, [], (0, 1), (1, 0)))
        self.assertIsNone(both_held(repeated(log, 5), [], (1, 0), (0, 1)))

    def least_apart(self, offices, rows, finds, one, other):
        """Return the least pair of moments, by the sheets that are there with one or two more finds."""
        for first, some in enumerate(there_at(offices, rows, finds)):
            if any(held[one[0]] == one[1] for held in some):
                there = there_at(offices, rows, finds + [(first,) + one])
                for second, others in enumerate(there):
                    if any(held[other[0]] == other[1] for held in others):
                        return first, second
        return None

    def test_sixty_rows_and_more(self):
        chance = random.Random(156)
        answers = set()
        for offices, times in ((4, 1), (4, 2), (3, 7)) * 6:
            base = some_rows(chance, offices, 60, (False,) * 20 + (True,))
            log = behind(repeated(Log(offices, base), times), Log(offices, base[:1]))
            moments = run(offices, log.rows, tuple(sure or chance.random() < 0.1 for _, _, sure in log.rows))
            places = [(chance.randint(0, len(log.rows)), chance.randrange(offices)) for _ in range(chance.choice((0, 6)))]
            finds = [(moment, office, moments[moment][office]) for moment, office in places]
            for one, other in (((0, offices - 1), (1, 0)), ((2, 1), (0, 2)), ((1, 0), (1, 2))):
                right = self.least_apart(offices, log.rows, finds, one, other)
                answers.add(right is None)
                self.assertEqual(right, both_held(log, finds, one, other))
        self.assertEqual({True, False}, answers)


class Wrongs(unittest.TestCase):
    def test_wrong_things(self):
        numbers = wrong_numbers() + [4, -2]
        for log in (K, SURE):
            for finds in (FINDS, tuple(FINDS)):
                first = (1, NoFinds, NO_FINDS)
                try_wrongs(self, moments_held, (log, finds, 1, 1),
                           [first, (2, NoOffice, numbers), (3, NoEdition, numbers)])
                try_wrongs(self, both_held, (log, finds, (1, 1), (2, 3)),
                           [first, (2, NoPair, NO_PAIRS), (3, NoPair, NO_PAIRS)])
        self.assertIs(NoPair, error_of(both_held, Log(1, ()), [], (0, 0), (0, 1)).__class__)

    def test_arguments_stay_and_lists_are_new(self):
        finds, rows = list(FINDS), tuple(list(K.rows))
        found = moments_held(K, finds, 1, 1)
        self.assertEqual(found, moments_held(Log(4, rows), tuple(finds), 1, 1))
        kept = list(found)
        found.clear()
        self.assertEqual(kept, moments_held(K, finds, 1, 1))
        self.assertEqual(both_held(K, finds, (1, 1), (2, 3)), both_held(K, tuple(finds), (1, 1), (2, 3)))
        self.assertEqual((FINDS, rows), (finds, K.rows))


if __name__ == "__main__":
    unittest.main()
