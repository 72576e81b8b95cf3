import random
import unittest

from oracles import counts_on, run, some_rows, true_in
from samples import with_finds
from takenover.changes import behind, repeated
from takenover.dated import fit
from takenover.denials import doing_but, is_doing_but
from takenover.errors import NoDenials, NoFinds
from takenover.logs import Log
from wrongs import K, NO_FINDS, SURE, error_of, no_finds, try_wrongs, wrong_things

SIZES = ((1, 0, 3), (2, 6, 40), (3, 7, 80), (4, 8, 80), (5, 9, 30), (8, 9, 5), (12, 9, 5))
NO_DENIALS = no_finds(3)


def denials_near(chance, offices, rows, told, finds):
    """Return denials, many of them true in one doing in which the finds are true."""
    right = [moments for moments in told.values() if true_in(moments, finds)] or list(told.values())
    found = []
    moment = chance.randint(0, len(rows))
    for _ in range(chance.choice((0, 1, 2, 3, 3, 3))):
        moment = moment if chance.random() < 0.5 else chance.randint(0, len(rows))
        office = chance.randrange(offices)
        edition = chance.choice(right)[moment][office] if chance.random() < 0.9 else chance.randrange(offices)
        found.append((moment, office, edition))
    return found


class But(unittest.TestCase):
    def test_all_doings_gone_through(self):
        chance = random.Random(111)
        answers = [0, 0]
        for offices, rows, told, finds in with_finds(112, SIZES):
            log = Log(offices, rows)
            for _ in range(3):
                denials = denials_near(chance, offices, rows, told, finds)
                right = [doing for doing, moments in told.items() if true_in(moments, finds)
                         and not any(true_in(moments, [denial]) for denial in denials)]
                found = doing_but(log, finds, denials)
                answers[bool(right)] += 1
                self.assertIs(bool(right), found is not None, (offices, rows, finds, denials))
                if right:
                    self.assertIn(found, right)
                    self.assertIs(True, is_doing_but(log, tuple(finds), tuple(denials), found))
        self.assertGreater(min(answers), 300)

    def test_denials_on_both_sides(self):
        # The office in the middle must hold an edition between two others, and neither extreme doing has it there.
        rows = ((1, 0, False), (1, 2, False))
        log = Log(3, rows)
        self.assertEqual((False, False), doing_but(log, [], [(2, 1, 0), (2, 1, 2)]))
        self.assertIsNone(doing_but(log, [], [(2, 1, 0), (2, 1, 1), (2, 1, 2)]))
        rows = tuple((x, y, False) for x, y in ((1, 0), (3, 4), (2, 1), (2, 3), (1, 2), (3, 2), (0, 1), (4, 3)))
        chance = random.Random(113)
        answers = set()
        for _ in range(300):
            places = [(chance.randint(5, 8), chance.randrange(5)) for _ in range(2)]
            denials = [(moment, office, chance.randrange(5)) for moment, office in places + places[:1]]
            right = bool(counts_on(5, rows, [(8, 2, 2)], denials))
            answers.add(right)
            found = doing_but(Log(5, rows), [(8, 2, 2)], denials)
            self.assertIs(right, found is not None)
            if right:
                moments = run(5, rows, found)
                self.assertTrue(true_in(moments, [(8, 2, 2)]))
                self.assertFalse(any(true_in(moments, [denial]) for denial in denials))
        self.assertEqual({True, False}, answers)

    def test_doings_are_judged(self):
        chance = random.Random(114)
        for offices, rows, told, finds in with_finds(115, ((3, 5, 10), (4, 6, 5))):
            denials = denials_near(chance, offices, rows, told, finds)
            for doing, moments in told.items():
                right = true_in(moments, finds) and not any(true_in(moments, [denial]) for denial in denials)
                self.assertIs(right, is_doing_but(Log(offices, rows), finds, denials, doing))
        for thing in wrong_things() + [(1, 0, 0, 0), [True] * 4, (True,) * 3, (True,) * 5]:
            self.assertIs(False, is_doing_but(K, [], [], thing))
            self.assertIs(False, is_doing_but(K, [], [(4, 1, 2)], thing))
        self.assertIs(False, is_doing_but(SURE, [], [], (False,) * 4))
        self.assertIs(True, is_doing_but(SURE, (), (), (False, False, True, False)))

    def test_no_denials_and_three(self):
        for log in (K, SURE, Log(1, ()), Log(12, ())):
            for denials in ([], ()):
                found = doing_but(log, [], denials)
                self.assertIs(True, is_doing_but(log, [], denials, found))
            self.assertIsNone(doing_but(log, [], [(0, 0, 0)]))
            self.assertIsNone(doing_but(log, (), ((0, 0, 0),) * 3))
        self.assertEqual((), doing_but(Log(12, ()), [(0, 3, 3)], [(0, 3, 4), (0, 3, 2), (0, 0, 11)]))
        self.assertIsNone(doing_but(Log(12, ()), [(0, 3, 4)], []))

    def test_denials_that_are_finds_or_come_twice(self):
        for find in ((4, 1, 1), (4, 1, 2), (2, 2, 1)):
            self.assertIs(True, fit(K, [find]))
            self.assertIsNone(doing_but(K, [find], [find]))
            self.assertIsNone(doing_but(K, (find,), [(4, 0, 1), find, find]))
            found = doing_but(K, [], [find, find])
            self.assertIs(True, is_doing_but(K, [], [find, find, find], found))
            self.assertIs(False, is_doing_but(K, [find], [find], found))

    def judge_great(self, chance, log, times, last):
        """Judge doings with forty finds of one doing, and three denials that are true in it, or in another one."""
        offices, rows = log.offices, log.rows
        answers = [0, 0]
        for at in range(times):
            done = chance.choice((0.03, 0.3))
            moments = [run(offices, rows, tuple(sure or chance.random() < done for _, _, sure in rows)) for _ in range(2)]
            places = [(chance.randint(0, last), chance.randrange(offices)) for _ in range(40)]
            finds = [(moment, office, moments[0][moment][office]) for moment, office in places]
            known = finds[:chance.randint(1, 40)] if at % 2 else finds
            places = [(chance.randint(0, last), chance.randrange(offices)) for _ in range(3)]
            denials = [(moment, office, moments[at % 3 == 0][moment][office]) for moment, office in places]
            right = bool(counts_on(offices, rows, known, denials))
            answers[right] += 1
            found = doing_but(log, known, denials)
            self.assertIs(right, found is not None)
            if right:
                told = run(offices, rows, found)
                self.assertTrue(true_in(told, known))
                self.assertFalse(any(true_in(told, [denial]) for denial in denials))
                self.assertIs(True, is_doing_but(log, known, denials, found))
        return answers

    def test_forty_finds_and_sixty_rows(self):
        chance = random.Random(116)
        answers = [0, 0]
        for offices in (3, 4, 6) * 6:
            log = Log(offices, some_rows(chance, offices, 60, (False, False, False, False, True)))
            answers = [one + other for one, other in zip(answers, self.judge_great(chance, log, 10, 60))]
        self.assertGreater(min(answers), 15)

    def test_great_logs(self):
        chance = random.Random(117)
        answers = [0, 0]
        for offices, many in ((5, 300), (6, 120), (3, 3000)):
            base = some_rows(chance, offices, 60, (False,) * 9 + (True,))
            log = behind(repeated(Log(offices, base), many // 60), Log(offices, some_rows(chance, offices, 5)))
            answers = [one + other for one, other in zip(answers, self.judge_great(chance, log, 30, 40))]
        self.assertGreater(min(answers), 5)


class Wrongs(unittest.TestCase):
    def test_no_finds_then_no_denials(self):
        for log in (K, SURE):
            finds, denials = [(4, 0, 0)], [(4, 1, 1), (2, 2, 2)]
            wrong = [(1, NoFinds, NO_FINDS), (2, NoDenials, NO_DENIALS)]
            try_wrongs(self, doing_but, (log, finds, denials), wrong)
            try_wrongs(self, doing_but, (log, tuple(finds), tuple(denials)), wrong)
            for thing in (None, (True,) * 4, (False, False, True, False)):
                try_wrongs(self, is_doing_but, (log, finds, denials, thing), wrong)

    def test_four_denials_and_forty_one_finds(self):
        self.assertIsNone(error_of(doing_but, K, [(0, 0, 0)] * 40, [(0, 0, 1)] * 3))
        self.assertIs(NoFinds, error_of(doing_but, K, [(0, 0, 0)] * 41, [(0, 0, 1)] * 4).__class__)
        self.assertIs(NoDenials, error_of(doing_but, K, [(0, 0, 0)] * 40, [(0, 0, 1)] * 4).__class__)

    def test_arguments_stay(self):
        finds, denials, rows = [(4, 0, 0)], [(4, 1, 1), (2, 2, 2)], tuple(list(K.rows))
        found = doing_but(K, finds, denials)
        self.assertEqual(found, doing_but(Log(4, rows), tuple(finds), tuple(denials)))
        self.assertIs(True, is_doing_but(K, finds, denials, found))
        self.assertEqual(([(4, 0, 0)], [(4, 1, 1), (2, 2, 2)], rows), (finds, denials, K.rows))


if __name__ == "__main__":
    unittest.main()
