import random
import unittest

from itertools import product

from oracles import comes_from, comes_from_outside, right_chain, run, some_rows, there_at, true_in
from samples import with_finds
from takenover.chains import chain, is_chain
from takenover.changes import behind, repeated
from takenover.dated import doing_for
from takenover.errors import NoFinds
from takenover.logs import Log
from wrongs import K, NO_FINDS, SURE, nested, try_wrongs, wrong_things

SIZES = ((1, 0, 5), (2, 6, 40), (3, 7, 60), (4, 8, 60), (5, 9, 20), (8, 9, 5), (12, 9, 5))
BAD = [(2, 2, 0), (4, 1, 1)]


def near(chance, offices, rows, thing):
    """Return lists that differ from a chain in a few places."""
    found = [thing[1:], thing[:-1], thing[::-1], thing + thing[-1:], thing * 2]
    for _ in range(12):
        at = chance.randrange(len(thing))
        found.append(thing[:at] + thing[at + 1:])
        found.append(thing[:at] + [thing[at]] + thing[at:])
        bound = list(thing[at])
        bound[chance.randrange(3)] += chance.choice((-1, 1))
        found.append(thing[:at] + [tuple(bound)] + thing[at + 1:])
        m, a, c = thing[at]
        found.append(thing[:at + 1] + [(m + chance.randint(-1, 1), a + chance.randint(0, 1), c + chance.randint(-1, 1))])
        found.append(found[-1] + thing[at + 1:])
    return found


class Chains(unittest.TestCase):
    def test_all_doings_gone_through(self):
        chance = random.Random(101)
        answers = [0, 0]
        for offices, rows, told, finds in with_finds(102, SIZES):
            log = Log(offices, rows)
            fit = any(true_in(moments, finds) for moments in told.values())
            found = chain(log, finds)
            self.assertIs(fit, found is None, (rows, finds))
            self.assertIs(fit, doing_for(log, finds) is not None)
            answers[fit] += 1
            if fit:
                self.assertIs(False, is_chain(log, finds, None))
                continue
            self.assertIs(list, found.__class__)
            self.assertTrue(all(bound.__class__ is tuple for bound in found))
            self.assertTrue(right_chain(offices, rows, finds, found), (rows, finds, found))
            self.assertIs(True, is_chain(log, tuple(finds), found))
            for thing in near(chance, offices, rows, found):
                self.assertIs(right_chain(offices, rows, finds, thing), is_chain(log, finds, thing), (rows, finds, thing))
        self.assertGreater(min(answers), 100)

    def test_sixty_rows_with_sure_ones(self):
        chance = random.Random(103)
        answers = set()
        for _ in range(60):
            rows = some_rows(chance, 5, 60, chance.choice([(False,), (False, True), (False,) * 5 + (True,)]))
            moments = run(5, rows, tuple(sure or chance.random() < 0.2 for _, _, sure in rows))
            finds = []
            for _ in range(40):
                moment, office = chance.randint(0, 60), chance.randrange(5)
                edition = moments[moment][office] if chance.random() < 0.97 else chance.randrange(5)
                finds.append((moment, office, edition))
            fit = bool(there_at(5, rows, finds)[0])
            answers.add(fit)
            found = chain(Log(5, rows), finds)
            self.assertIs(fit, found is None)
            if not fit:
                self.assertTrue(right_chain(5, rows, finds, found))
                self.assertIs(True, is_chain(Log(5, rows), finds, found))
        self.assertEqual({True, False}, answers)

    def test_no_rows_one_office_and_forty_finds(self):
        self.assertIsNone(chain(Log(1, ()), []))
        self.assertIsNone(chain(Log(12, ()), [(0, 3, 3)] * 40))
        self.assertIsNone(chain(Log(12, ()), ((0, 11, 11),) * 40))
        for log, finds in ((Log(12, ()), [(0, 3, 3)] * 39 + [(0, 3, 4)]), (Log(2, ()), ((0, 1, 0),))):
            found = chain(log, finds)
            self.assertTrue(right_chain(log.offices, log.rows, finds, found))
            self.assertIs(True, is_chain(log, finds, found))

    def test_a_chain_is_there_just_where_no_doing_is(self):
        chance = random.Random(104)
        for offices, many in ((5, 300), (8, 500), (12, 800), (3, 4000)):
            for sures in ((False,), (False, False, False, True)):
                base = some_rows(chance, offices, 60, sures)
                log = behind(repeated(Log(offices, base), many // 60), Log(offices, some_rows(chance, offices, 7)))
                rows = log.rows
                moments = run(offices, rows, tuple(sure or chance.random() < 0.1 for _, _, sure in rows))
                places = [(chance.randint(0, len(rows)), chance.randrange(offices)) for _ in range(39)]
                finds = [(moment, office, moments[moment][office]) for moment, office in places]
                self.assertIsNone(chain(log, finds))
                barred = 0
                for _ in range(12):
                    place = (chance.randint(0, len(rows)), chance.randrange(offices), chance.randrange(offices))
                    found = chain(log, finds + [place])
                    doing = doing_for(log, finds + [place])
                    self.assertIs(doing is None, found is not None)
                    if found is None:
                        self.assertTrue(true_in(run(offices, rows, doing), finds + [place]))
                        continue
                    barred += 1
                    self.assertTrue(right_chain(offices, rows, finds + [place], found))
                    self.assertIs(True, is_chain(log, finds + [place], found))
                    self.assertIs(False, is_chain(log, finds + [place], found + [(0, 0, 0)]))
                self.assertGreater(barred, 2)


class Judged(unittest.TestCase):
    def test_all_short_lists_gone_through(self):
        right = 0
        for rows, finds in (((), [(0, 0, 1)]), ((), [(0, 1, 0), (0, 0, 0)]), (((1, 0, True),), [(1, 1, 1)]),
                            (((0, 1, True),), [(1, 0, 0)]), (((0, 1, False),), [(1, 0, 1), (0, 1, 0)]), ((), [])):
            bounds = list(product(range(-1, 3), range(-1, 4), range(-1, 5)))
            log = Log(2, rows)
            for many in (0, 1, 2):
                for thing in product(bounds, repeat=many):
                    told = right_chain(2, rows, finds, list(thing))
                    right += told
                    self.assertIs(told, is_chain(log, finds, list(thing)))
            for first in [bound for bound in bounds if comes_from_outside(2, finds, bound)]:
                for second in [bound for bound in bounds if comes_from(2, rows, finds, first, bound)]:
                    for third in bounds:
                        told = right_chain(2, rows, finds, [first, second, third])
                        right += told
                        self.assertIs(told, is_chain(log, finds, [first, second, third]))
        self.assertEqual(8, right)

    def test_a_chain_of_one_bound(self):
        finds = [(0, 0, 0), (0, 0, 1)]
        self.assertIs(True, is_chain(Log(2, ()), finds, [(0, 1, 1)]))
        self.assertIs(True, is_chain(Log(2, ()), [(0, 1, 0)], [(0, 1, 2)]))
        self.assertIs(False, is_chain(Log(2, ()), finds, [(0, 2, 1)]))
        self.assertIs(False, is_chain(Log(2, ()), [], [(0, 1, 1)]))
        self.assertIs(False, is_chain(Log(2, ()), finds, []))
        self.assertIs(False, is_chain(Log(2, ()), finds, ()))
        self.assertIs(False, is_chain(Log(2, ()), [], []))

    def test_beside_and_apart(self):
        log = Log(3, ())
        finds = [(0, 0, 0), (0, 0, 2), (0, 0, 1)]
        self.assertIs(True, is_chain(log, finds, [(0, 1, 1), (0, 2, 1)]))
        self.assertIs(True, is_chain(log, finds, [(0, 1, 1), (0, 2, 2)]))
        finds = [(0, 0, 0), (0, 0, 2)]
        self.assertIs(True, is_chain(log, finds, [(0, 1, 1), (0, 2, 1)]))
        self.assertIs(False, is_chain(log, finds, [(0, 1, 1), (0, 2, 2)]))
        self.assertIs(False, is_chain(log, finds, [(0, 3, 3), (0, 4, 3)]))
        self.assertIs(False, is_chain(log, [(0, 2, 2)], [(0, 3, 3), (0, 4, 4)]))

    def test_apart_at_moments_of_finds_and_ahead_of_them(self):
        rows = ((2, 1, False), (0, 1, False))
        for moment, right in ((2, True), (1, True), (0, False)):
            finds = [(moment, 1, 1), (1, 1, 0), (1, 1, 2)]
            thing = [(1, 1, 2), (1, 2, 3)]
            self.assertIs(right, is_chain(Log(3, rows), finds, thing))
            self.assertIs(right, right_chain(3, rows, finds, thing))

    def test_cuts_below_the_first_and_beyond_the_last(self):
        log = Log(2, ((1, 0, True),))
        finds = [(1, 1, 1)]
        self.assertIs(True, is_chain(log, finds, [(0, 1, 1), (1, 1, 2)]))
        self.assertIs(True, is_chain(log, finds, [(0, 1, 1), (1, 1, 2), (1, 2, 3), (0, 2, 3)]))
        self.assertIs(False, is_chain(log, finds, [(0, 1, 1), (1, 1, 2), (1, 2, 3)]))
        for thing in ([(0, 0, -1)], [(0, 1, 10 ** 39)], [(0, 0, 0), (1, 0, -1)], [(-1, 0, 0)], [(0, -1, -1)],
                      [(0, 1, 1), (1, 1, 10 ** 39)], [(0, 3, 3)], [(10 ** 39, 1, 2)], [(0, 2, 2), (1, 2, 2), (2, 2, 2)]):
            self.assertIs(False, is_chain(log, finds, thing))

    def test_sure_rows_of_both_kinds(self):
        for rows, finds, thing in ((((1, 0, True),), [(1, 1, 1)], [(0, 1, 1), (1, 1, 2)]),
                                   (((0, 1, True),), [(1, 0, 0)], [(1, 1, 1), (0, 1, 1)]),
                                   (((0, 1, True),), [(1, 1, 0)], [(1, 1, 2), (0, 1, 3)])):
            told = right_chain(2, rows, finds, thing)
            self.assertIs(told, is_chain(Log(2, rows), finds, thing))
            self.assertIs(chain(Log(2, rows), finds) is not None, not there_at(2, rows, finds)[0])
            loose = tuple((x, y, False) for x, y, _ in rows)
            self.assertIs(right_chain(2, loose, finds, thing), is_chain(Log(2, loose), finds, thing))
        self.assertIsNotNone(chain(Log(2, ((0, 1, True),)), [(1, 0, 0)]))
        self.assertIsNone(chain(Log(2, ((0, 1, False),)), [(1, 0, 0)]))

    def test_other_things(self):
        right = chain(K, BAD)
        self.assertIs(True, is_chain(K, BAD, right))
        wrong = wrong_things() + [tuple(right), [list(bound) for bound in right], right + [None], [right], (right,)]
        wrong += [right[:-1] + [right[-1] + (0,)], right[:-1] + [right[-1][:2]], right[:-1] + [nested(tuple, 38)]]
        wrong += [{0: right}, iter(right), [str(bound) for bound in right], right + [nested(list, 39)]]
        for thing in wrong:
            self.assertIs(False, is_chain(K, BAD, thing))
            self.assertIs(False, is_chain(SURE, [], thing))

    def test_flags_in_the_place_of_integers(self):
        log, finds = Log(2, ()), [(0, 0, 0), (0, 0, 1)]
        self.assertIs(True, is_chain(log, finds, [(0, 1, 1)]))
        for bound in ((False, 1, 1), (0, True, 1), (0, 1, True)):
            self.assertIs(False, is_chain(log, finds, [bound]))
        self.assertIs(True, is_chain(log, [(0, 1, 0)], [(0, 1, 2)]))


class Wrongs(unittest.TestCase):
    def test_no_finds(self):
        for log in (K, SURE):
            for finds in (BAD, tuple(BAD), [(4, 1, 2)]):
                try_wrongs(self, chain, (log, finds), [(1, NoFinds, NO_FINDS)])
            for thing in (None, [], [(0, 0, 0)], chain(log, BAD)):
                try_wrongs(self, is_chain, (log, BAD, thing), [(1, NoFinds, NO_FINDS)])

    def test_arguments_stay_and_lists_are_new(self):
        rows, finds = tuple(list(K.rows)), list(BAD)
        found = chain(K, finds)
        self.assertEqual(found, chain(Log(4, rows), tuple(BAD)))
        kept = list(found)
        self.assertIs(True, is_chain(K, finds, found))
        self.assertEqual((kept, BAD, rows), (found, finds, K.rows))
        found.clear()
        self.assertEqual(kept, chain(K, finds))


if __name__ == "__main__":
    unittest.main()
