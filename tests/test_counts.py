import random
import unittest

from fractions import Fraction

from oracles import all_rows, counts_on, finals, finals_led_on, run, some_rows, true_in
from samples import JUST_SHEETS, chance_apart, finds_of, fractions, rows_of, with_finds
from takenover.changes import behind, repeated
from takenover.counts import (all_doings, asked_next, chance, count_doings, count_final, doing_at, doing_number,
                              ever_held, fewest_done, final_rows)
from takenover.errors import (NoChances, NoDoing, NoEdition, NoFinds, NoMoment, NoNumber, NoOffice, TooMany)
from takenover.logs import Log
from wrongs import (HALVES, K, NO_CHANCES, NO_FINDS, NO_FRACTIONS, SURE, error_of, try_wrongs, wrong_but, wrong_numbers,
                    wrong_things)

SIZES = ((1, 0, 3), (2, 6, 20), (3, 7, 40), (4, 8, 40), (5, 9, 10), (8, 9, 3))
FINDS = [(2, 2, 1), (4, 1, 1)]
# Logs and finds with just so many doings, rows as "XY", sure ones as "XY!".
JUST = ((2000, 4, "32 32 21 12 10 10 01 21 21 12 12 21 32", [(13, 1, 1), (13, 2, 1)]),
        (2001, 3, "21 21 21 21 21 12 21 12 01 10 10 21 10", [(13, 1, 0), (13, 2, 1)]),
        (1999, 2, "10 01 01 01 01 01 10 10 01 01 01 01", [(12, 0, 1)]))
TWICE = ((0, 1, False), (1, 0, False))


def word(many, all_of_them):
    """Return the word for what is true in so many of so many doings."""
    if all_of_them == 0:
        return "none"
    return "never" if many == 0 else "surely" if many == all_of_them else "open"


class Counted(unittest.TestCase):
    def test_all_doings_gone_through(self):
        source = random.Random(161)
        words = set()
        for offices, rows, told, finds in with_finds(162, SIZES):
            if offices > 8:
                continue
            log = Log(offices, rows)
            right = sorted(doing for doing, moments in told.items() if true_in(moments, finds))
            self.assertEqual(len(right), count_doings(log, finds))
            self.assertEqual(right, all_doings(log, tuple(finds)))
            for number in {0, len(right) // 3, len(right) - 1} if right else ():
                self.assertEqual(right[number], doing_at(log, finds, number))
                self.assertEqual(number, doing_number(log, finds, right[number]))
            for number in (len(right), len(right) + 1, 10 ** 39):
                self.assertIs(NoNumber, error_of(doing_at, log, finds, number).__class__)
            fewest = min((sum(doing), doing) for doing in right) if right else None
            self.assertEqual(fewest, fewest_done(log, finds))
            chances = fractions(source, len(rows))
            total = sum((chance_apart(rows, doing, chances) for doing in right), Fraction(0))
            self.assertEqual((total.numerator, total.denominator), chance(log, finds, chances))
            for office in range(offices):
                for edition in range(offices):
                    many = sum(any(held[office] == edition for held in told[doing]) for doing in right)
                    words.add(word(many, len(right)))
                    self.assertEqual(word(many, len(right)), ever_held(log, finds, office, edition))
            for moment in range(len(rows) + 1):
                worst = []
                for office in range(offices):
                    held = [told[doing][moment][office] for doing in right]
                    worst.append(max(map(held.count, held)) if held else 0)
                asked = worst.index(min(worst)) if right else None
                self.assertEqual(asked, asked_next(log, finds, moment))
        self.assertEqual({"none", "surely", "never", "open"}, words)

    def test_doings_that_are_none_of_them(self):
        for offices, rows, told, finds in with_finds(163, ((3, 5, 10), (4, 6, 5))):
            log = Log(offices, rows)
            for doing, moments in told.items():
                right = true_in(moments, finds)
                error = error_of(doing_number, log, finds, doing)
                self.assertIs(None if right else NoDoing, error and error.__class__)

    def test_final_rows(self):
        source = random.Random(164)
        logs = [(1, ()), (8, ())] + [(3, rows) for rows in all_rows(3, 2)]
        logs += [(offices, some_rows(source, offices, many)) for offices, many in ((2, 6), (3, 8), (5, 9), (8, 9)) * 5]
        for offices, rows in logs:
            right = sorted(finals(offices, rows))
            self.assertEqual(right, final_rows(Log(offices, rows)))
            self.assertEqual(len(right), count_final(Log(offices, rows)))
        for offices in (5, 7):
            rows = some_rows(source, offices, 60, (False,) * 9 + (True,))
            right = sorted(finals_led_on(offices, rows))
            self.assertEqual((right, len(right)), (final_rows(Log(offices, rows)), count_final(Log(offices, rows))))

    def test_no_rows(self):
        for offices in (1, 2, 8):
            log = Log(offices, ())
            self.assertEqual((1, [()], ()), (count_doings(log, []), all_doings(log, []), doing_at(log, [], 0)))
            self.assertEqual((0, (0, ()), (1, 1)), (doing_number(log, [], ()), fewest_done(log, []), chance(log, [], ())))
            self.assertEqual(([tuple(range(offices))], 1), (final_rows(log), count_final(log)))
            self.assertEqual(("surely", 0), (ever_held(log, [], 0, 0), asked_next(log, [], 0)))
        self.assertEqual("never", ever_held(Log(2, ()), [], 0, 1))

    def test_finds_that_no_doing_has(self):
        bad = [(2, 2, 0), (4, 1, 1)]
        self.assertEqual((0, [], None), (count_doings(K, bad), all_doings(K, bad), fewest_done(K, bad)))
        self.assertEqual(((0, 1), "none", None), (chance(K, bad, HALVES), ever_held(K, bad, 0, 0), asked_next(K, bad, 2)))
        self.assertIs(NoNumber, error_of(doing_at, K, bad, 0).__class__)
        self.assertIs(NoDoing, error_of(doing_number, K, bad, (False,) * 4).__class__)

    def test_held_at_some_moment_alone(self):
        log = Log(3, ((0, 1, True), (0, 1, False), (1, 2, True), (0, 1, True)))
        self.assertEqual(("surely", "surely", "surely"), tuple(ever_held(log, [], 0, edition) for edition in range(3)))
        self.assertEqual(("never", "surely", "surely"), tuple(ever_held(log, [], 1, edition) for edition in range(3)))
        self.assertEqual("open", ever_held(Log(2, TWICE), [], 0, 1))
        self.assertEqual("surely", ever_held(Log(2, TWICE), [(2, 1, 1), (2, 0, 1)], 0, 1))
        self.assertEqual("never", ever_held(Log(2, TWICE), [(1, 0, 0)], 0, 1))


class Chances(unittest.TestCase):
    def test_chances_of_0_and_of_1(self):
        self.assertEqual((1, 1), chance(K, [], ((0, 1), (1, 1), (1, 2), (3, 7))))
        self.assertEqual((0, 1), chance(K, [(4, 1, 3)], ((0, 1), (1, 1), (0, 1), (1, 1))))
        self.assertEqual((1, 1), chance(K, [(4, 1, 3)], ((0, 1), (1, 1), (1, 1), (1, 1))))
        self.assertEqual((3, 14), chance(K, [(4, 1, 3)], ((0, 1), (1, 1), (1, 2), (3, 7))))

    def test_sure_rows_with_any_chance(self):
        for one in ((0, 1), (1, 1), (1, 10 ** 39)):
            self.assertEqual((1, 1), chance(SURE, [(3, 2, 3)], ((0, 1), (1, 3), one, (1, 2))))
            self.assertEqual((0, 1), chance(SURE, [(3, 2, 2)], ((0, 1), (1, 3), one, (1, 2))))

    def test_long_fractions(self):
        source = random.Random(165)
        for offices in (2, 4, 8):
            rows = some_rows(source, offices, 9)
            bottom = 10 ** 39 + 7
            one = Fraction(source.randrange(bottom), bottom)
            chances = ((one.numerator, one.denominator), (1, 10 ** 40 - 1)) * 4 + ((0, 1),)
            finds = finds_of(source, Log(offices, rows), 2)
            right = Fraction(0)
            for number in range(count_doings(Log(offices, rows), finds)):
                right += chance_apart(rows, doing_at(Log(offices, rows), finds, number), chances)
            self.assertEqual((right.numerator, right.denominator), chance(Log(offices, rows), finds, chances))

    def test_sixty_rows(self):
        source = random.Random(166)
        for offices in (3, 6):
            rows = some_rows(source, offices, 60, (False,) * 5 + (True,))
            chances = fractions(source, 60, 3)
            finds = finds_of(source, Log(offices, rows), 5)
            led = {tuple(range(offices)): Fraction(1)}
            for at, (x, y, sure) in enumerate(rows):
                one = Fraction(1) if sure else Fraction(*chances[at])
                there = {}
                for held, part in led.items():
                    if all(held[office] == edition for moment, office, edition in finds if moment == at):
                        for to, share in ((held[:x] + (held[y],) + held[x + 1:], one), (held, 1 - one)):
                            there[to] = there.get(to, Fraction(0)) + part * share
                led = there
            shown = [(0, office, edition) for moment, office, edition in finds if moment == 60]
            right = sum((part for held, part in led.items() if true_in([held], shown)), Fraction(0))
            self.assertEqual((right.numerator, right.denominator), chance(Log(offices, rows), finds, chances))


class Limits(unittest.TestCase):
    def test_eight_and_nine_offices(self):
        eight = Log(8, ((0, 1, False),))
        self.assertEqual((2, 2), (count_doings(eight, []), count_final(eight)))
        for offices in range(9, 13):
            log = Log(offices, ((0, 1, False),))
            calls = [(count_doings, []), (all_doings, []), (fewest_done, []), (chance, [], ((1, 2),)), (final_rows,)]
            calls += [(count_final,), (ever_held, [], 0, 0), (asked_next, [], 0), (doing_at, [], 0), (doing_at, [], 99)]
            calls += [(doing_number, [(0, 0, 1)], (True,)), (doing_number, [], (True,))]
            for function, *args in calls:
                error = error_of(function, log, *args)
                self.assertEqual((TooMany, 8), (error.__class__, error.most), function.__name__)
            for function, *args in ((all_doings, []), (all_doings, [(0, 0, 1)])):
                error = error_of(function, Log(offices, TWICE * 6), *args)
                self.assertEqual((TooMany, 8), (error.__class__, error.most))
            others = [(count_doings, NoFinds, [None]), (all_doings, NoFinds, None), (fewest_done, NoFinds, 0)]
            others += [(chance, NoFinds, 0, 0), (chance, NoChances, [], ((2, 4),)), (ever_held, NoOffice, [], offices, 0)]
            others += [(ever_held, NoEdition, [], 0, offices), (asked_next, NoMoment, [], 2), (asked_next, NoFinds, 0, 0)]
            others += [(doing_at, NoNumber, [], -1), (doing_at, NoNumber, [], True), (doing_number, NoDoing, [], (1,))]
            for function, error, *args in others:
                self.assertIs(error, error_of(function, log, *args).__class__, function.__name__)

    def test_two_thousand_doings(self):
        # Eleven rows that nothing is known of have 2048 doings; sure rows add none.
        log = Log(2, TWICE * 5 + ((0, 1, False), (1, 0, True)))
        error = error_of(all_doings, log, [])
        self.assertEqual((TooMany, 2000), (error.__class__, error.most))
        self.assertEqual(1024, len(all_doings(Log(2, TWICE * 5 + ((1, 0, True),)), [])))
        for finds, many in (([(1, 0, 0), (2, 1, 1)], 512), ([(12, 0, 1), (12, 1, 0)], 0)):
            self.assertEqual(many, count_doings(log, finds))
            self.assertEqual(many, len(all_doings(log, finds)))

    def test_just_two_thousand_doings(self):
        for many, offices, rows, finds in JUST:
            log = Log(offices, rows_of(rows))
            self.assertEqual((many, many), (sum(counts_on(offices, log.rows, finds).values()), count_doings(log, finds)))
            if many > 2000:
                error = error_of(all_doings, log, finds)
                self.assertEqual((TooMany, 2000), (error.__class__, error.most))
                continue
            found = all_doings(log, finds)
            self.assertEqual((many, sorted(set(found))), (len(found), found))
            self.assertTrue(all(true_in(run(offices, log.rows, doing), finds) for doing in found))

    def test_two_thousand_sheets(self):
        source = random.Random(167)
        for offices in (7, 8):
            rows = some_rows(source, offices, 60, (False,))
            right = finals_led_on(offices, rows)
            log = Log(offices, rows)
            self.assertEqual(len(right), count_final(log))
            if len(right) > 2000:
                error = error_of(final_rows, log)
                self.assertEqual((TooMany, 2000), (error.__class__, error.most))
            else:
                self.assertEqual(sorted(right), final_rows(log))
        for many, rows in JUST_SHEETS:
            log = Log(8, rows_of(rows))
            right = sorted(finals_led_on(8, log.rows))
            self.assertEqual((many, many), (len(right), count_final(log)))
            if many > 2000:
                error = error_of(final_rows, log)
                self.assertEqual((TooMany, 2000), (error.__class__, error.most))
            else:
                self.assertEqual(right, final_rows(log))


class Great(unittest.TestCase):
    def judge(self, source, log, finds, times):
        """Judge counts and numbers by counts led on over each row, of all doings and of those ahead of one."""
        many = sum(counts_on(log.offices, log.rows, finds).values())
        self.assertEqual(many, count_doings(log, finds))
        self.assertGreater(many, 0)
        self.assertIs(NoNumber, error_of(doing_at, log, finds, many).__class__)
        found = []
        for number in [0, many - 1] + [source.randrange(many) for _ in range(times)]:
            doing = doing_at(log, finds, number)
            self.assertTrue(true_in(run(log.offices, log.rows, doing), finds))
            self.assertTrue(all(done or not row[2] for done, row in zip(doing, log.rows)))
            self.assertEqual(number, doing_number(log, finds, doing))
            self.assertEqual(number, sum(counts_on(log.offices, log.rows, finds, (), doing).values()))
            found.append((number, doing))
        self.assertEqual([doing for _, doing in sorted(found)], sorted(doing for _, doing in found))
        fewest, least = fewest_done(log, finds)
        self.assertEqual(fewest, sum(least))
        self.assertTrue(all(sum(doing) > fewest or (sum(doing) == fewest and least <= doing) for _, doing in found))
        self.assertTrue(true_in(run(log.offices, log.rows, least), finds))
        doing_number(log, finds, least)

    def test_eight_offices_and_sixty_rows(self):
        source = random.Random(171)
        for sures in ((False,), (False,) * 6 + (True,)):
            log = Log(8, some_rows(source, 8, 60, sures))
            for many in (0, 2, 12):
                self.judge(source, log, finds_of(source, log, many, 0.1), 1)

    def test_fewer_offices_and_some_thousand_rows(self):
        source = random.Random(172)
        for offices, many in ((2, 3000), (3, 2400), (4, 600), (5, 300)):
            base = some_rows(source, offices, 60, (False,) * 9 + (True,))
            log = behind(repeated(Log(offices, base), many // 60), Log(offices, base[:7]))
            for finds in ([], finds_of(source, log, 40)):
                self.judge(source, log, finds, 2)

    def test_what_is_told_of_great_logs(self):
        source = random.Random(173)
        for offices, times in ((8, 1), (5, 3), (3, 25)):
            base = some_rows(source, offices, 60, (False,) * 9 + (True,))
            log = repeated(Log(offices, base), times)
            rows = log.rows
            finds = finds_of(source, log, 4, 0.05)
            right = sorted(finals_led_on(offices, rows))
            self.assertEqual(len(right), count_final(log))
            if len(right) <= 2000:
                self.assertEqual(right, final_rows(log))
            for office, edition in ((0, 1), (1, 0), (offices - 1, offices - 2)):
                moments = range(len(rows) + 1)
                never = sum(counts_on(offices, rows, finds, [(at, office, edition) for at in moments]).values())
                many = sum(counts_on(offices, rows, finds).values())
                self.assertEqual(word(many - never, many), ever_held(log, finds, office, edition))
            self.assertEqual((1, 1), chance(log, [], ((1, 3),) * len(rows)))
            top, bottom = chance(log, finds, ((1, 2),) * len(rows))
            loose = sum(1 for row in rows if not row[2])
            self.assertEqual(count_doings(log, finds) * bottom, top * 2 ** loose)

    def test_asked_next_of_great_logs(self):
        source = random.Random(174)
        for offices, times in ((6, 1), (4, 2), (3, 6)):
            log = repeated(Log(offices, some_rows(source, offices, 60, (False,) * 9 + (True,))), times)
            for moment in (len(log.rows) // 3, len(log.rows)):
                finds = finds_of(source, log, 5)
                worst = []
                for office in range(offices):
                    left = [sum(counts_on(offices, log.rows, finds + [(moment, office, edition)]).values())
                            for edition in range(offices)]
                    worst.append(max(left))
                self.assertEqual(worst.index(min(worst)), asked_next(log, finds, moment))

    def test_the_fewest_rows_done(self):
        source = random.Random(175)
        for offices, many in ((3, 60), (5, 60), (3, 300)):
            for _ in range(4):
                base = some_rows(source, offices, 60, (False,) * 9 + (True,))
                log = repeated(Log(offices, base), many // 60)
                finds = finds_of(source, log, source.choice((2, 10)), 0.1)
                told = fewest_done(log, finds)
                self.assertEqual(self.fewest_apart(offices, log.rows, finds), told)

    def fewest_apart(self, offices, rows, finds):
        """Return the least number of rows done and the least such doing, by the best doing that leads to each sheets."""
        start = tuple(range(offices))
        best = {start: (0, ())} if true_in([start], [find for find in finds if find[0] == 0]) else {}
        for at, (x, y, sure) in enumerate(rows):
            shown = [(0, office, edition) for moment, office, edition in finds if moment == at + 1]
            behind_it = {}
            for held, (many, doing) in best.items():
                ways = [(held[:x] + (held[y],) + held[x + 1:], (many + 1, doing + (True,)))]
                ways += [] if sure else [(held, (many, doing + (False,)))]
                for to, way in ways:
                    if true_in([to], shown) and (to not in behind_it or way < behind_it[to]):
                        behind_it[to] = way
            best = behind_it
        return min(best.values()) if best else None


class Wrongs(unittest.TestCase):
    def test_wrong_things(self):
        numbers = wrong_numbers() + [4, -2]
        first = (1, NoFinds, NO_FINDS)
        no_numbers = wrong_things() + [-2, -(10 ** 39), "1", (1,)]
        no_doings = wrong_but([()]) + [(True,) * 3, (True,) * 5, (1, 0, 0, 0), [True] * 4, (None, True, True, True)]
        for log in (K, SURE):
            for finds in (FINDS, tuple(FINDS)):
                for function in (count_doings, all_doings, fewest_done):
                    try_wrongs(self, function, (log, finds), [first])
                try_wrongs(self, doing_at, (log, finds, 0), [first, (2, NoNumber, no_numbers + [16, 99, 10 ** 39])])
                doing = doing_at(log, finds, 0)
                try_wrongs(self, doing_number, (log, finds, doing), [first, (2, NoDoing, no_doings + [(False,) * 4])])
                try_wrongs(self, chance, (log, finds, HALVES), [first, (2, NoChances, NO_CHANCES)])
                try_wrongs(self, ever_held, (log, finds, 1, 1), [first, (2, NoOffice, numbers), (3, NoEdition, numbers)])
                try_wrongs(self, asked_next, (log, finds, 3), [first, (2, NoMoment, wrong_numbers() + [5, -2])])

    def test_numbers_at_their_ends(self):
        self.assertEqual(((False,) * 4, (True,) * 4), (doing_at(K, [], 0), doing_at(K, [], 15)))
        self.assertIs(NoNumber, error_of(doing_at, K, [], 16).__class__)
        self.assertEqual((0, 15), (doing_number(K, [], (False,) * 4), doing_number(K, [], (True,) * 4)))
        self.assertIs(NoChances, error_of(chance, Log(1, ()), [], []).__class__)
        self.assertEqual((1, 1), chance(Log(1, ()), [], ()))
        self.assertEqual(1, count_doings(Log(8, ()), [(0, 0, 0)] * 40))

    def test_no_fractions(self):
        for one in NO_FRACTIONS:
            self.assertIs(NoChances, error_of(chance, Log(2, ((0, 1, False),)), [], (one,)).__class__, one)
            self.assertIs(NoChances, error_of(chance, Log(2, ((0, 1, True),)), [], (one,)).__class__, one)
        for one in ((0, 1), (1, 1), (1, 2), (10 ** 39, 10 ** 39 + 1)):
            self.assertEqual(one, chance(Log(2, ((0, 1, False),)), [(1, 0, 1)], (one,)))

    def test_arguments_stay_and_lists_are_new(self):
        finds, rows = list(FINDS), tuple(list(K.rows))
        for function in (count_doings, all_doings, fewest_done):
            self.assertEqual(function(K, finds), function(Log(4, rows), tuple(finds)))
        self.assertEqual(chance(K, finds, HALVES), chance(K, tuple(finds), HALVES))
        self.assertEqual((FINDS, rows), (finds, K.rows))
        for function, args in ((all_doings, (K, finds)), (final_rows, (K,))):
            kept = list(function(*args))
            function(*args).clear()
            self.assertEqual(kept, function(*args))


if __name__ == "__main__":
    unittest.main()
