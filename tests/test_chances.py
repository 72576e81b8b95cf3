import random
import unittest

from fractions import Fraction

from oracles import all_rows, finals, finals_led_on, run, some_rows, true_in
from samples import chance_apart, finds_of, fractions, with_finds
from takenover.chances import final_chances, likeliest, mean_apart
from takenover.changes import behind, repeated
from takenover.counts import chance
from takenover.errors import NoChances, NoFinds, TooMany
from takenover.logs import Log
from wrongs import HALVES, K, NO_CHANCES, NO_FINDS, NO_FRACTIONS, SURE, error_of, try_wrongs

SIZES = ((1, 0, 3), (2, 6, 20), (3, 7, 40), (4, 8, 40), (5, 9, 10), (8, 9, 3))
FINDS = [(2, 2, 1), (4, 1, 1)]


def pair(one):
    """Return a fraction as a pair."""
    return one.numerator, one.denominator


def led_chances(offices, rows, chances):
    """Return the chances of all sheets at the last moment, led on over each row."""
    led = {tuple(range(offices)): Fraction(1)}
    for (x, y, sure), each in zip(rows, chances):
        one = Fraction(1) if sure else Fraction(*each)
        there = {}
        for held, part in led.items():
            for to, share in ((held[:x] + (held[y],) + held[x + 1:], one), (held, 1 - one)):
                if share:
                    there[to] = there.get(to, Fraction(0)) + part * share
        led = there
    return led


def led_likeliest(offices, rows, finds, chances):
    """Return the greatest chance of a doing and the least such doing, where that is above 0, by those to all sheets."""
    best = {tuple(range(offices)): (Fraction(-1), ())}
    for at in range(len(rows) + 1):
        shown = [(0, office, edition) for moment, office, edition in finds if moment == at]
        best = {held: way for held, way in best.items() if true_in([held], shown) and way[0] < 0}
        if at == len(rows):
            return min(best.values()) if best else None
        x, y, sure = rows[at]
        one = Fraction(1) if sure else Fraction(*chances[at])
        there = {}
        for held, (less, doing) in best.items():
            ways = [(held[:x] + (held[y],) + held[x + 1:], (less * one, doing + (True,)))]
            ways += [] if sure else [(held, (less * (1 - one), doing + (False,)))]
            for to, way in ways:
                if to not in there or way < there[to]:
                    there[to] = way
        best = there
    return None


class Small(unittest.TestCase):
    def judge(self, log, told, finds, chances):
        """Judge by all doings of a log and the sheets at all moments that they lead to."""
        parts = {doing: chance_apart(log.rows, doing, chances) for doing in told}
        right = {}
        for doing, moments in told.items():
            right[moments[-1]] = right.get(moments[-1], Fraction(0)) + parts[doing]
        self.assertEqual({held: pair(one) for held, one in right.items() if one > 0}, final_chances(log, chances))
        mean = sum((one * len(set(held)) for held, one in right.items()), Fraction(0))
        self.assertEqual(pair(mean), mean_apart(log, chances))
        those = [(-parts[doing], doing) for doing, moments in told.items() if true_in(moments, finds)]
        best = min(those) if those else None
        self.assertEqual(None if best is None else (pair(-best[0]), best[1]), likeliest(log, finds, chances))
        return None if best is None else -best[0]

    def test_all_doings_gone_through(self):
        source = random.Random(201)
        found = set()
        for offices, rows, told, finds in with_finds(202, SIZES):
            log = Log(offices, rows)
            best = self.judge(log, told, finds, fractions(source, len(rows), source.choice((1, 2, 7))))
            found.add(best if best in (None, 0, 1) else "between")
        self.assertEqual({None, 0, 1, "between"}, found)

    def test_doings_that_are_likely_alike(self):
        # With halves alone all doings of as many rows are likely alike: the least one is told.
        for offices, rows, told, finds in with_finds(203, SIZES[:4]):
            log = Log(offices, rows)
            self.judge(log, told, finds, ((1, 2),) * len(rows))
            self.judge(log, told, tuple(finds), ((0, 1),) * len(rows))
            self.judge(log, told, finds, ((1, 1),) * len(rows))

    def test_no_doing_with_a_chance_above_0(self):
        log = Log(3, ((1, 0, False), (1, 2, False), (1, 0, False), (0, 1, False)))
        chances = ((1, 3), (0, 1), (1, 2), (1, 5))
        # The rows behind the one that has no chance are told as if all ways were alike.
        self.assertEqual(((0, 1), (False, True, False, False)), likeliest(log, [(2, 1, 2)], chances))
        self.assertEqual(((0, 1), (False, True, False, True)), likeliest(log, [(4, 0, 2)], chances))
        self.assertEqual(((0, 1), (False, True, True, False)), likeliest(log, [(2, 1, 2), (4, 1, 0)], chances))
        self.assertEqual(((0, 1), (True,)), likeliest(Log(2, ((0, 1, False),)), [(1, 0, 1)], ((0, 1),)))
        self.assertEqual(((0, 1), (False,)), likeliest(Log(2, ((0, 1, False),)), [(1, 0, 0)], ((1, 1),)))

    def test_sure_rows_with_any_chance(self):
        for one in ((0, 1), (1, 1), (1, 10 ** 39), (3, 7)):
            chances = ((0, 1), (1, 3), one, (1, 2))
            right = {(0, 1, 3, 3): (1, 2), (0, 3, 3, 3): (1, 2)}
            self.assertEqual(right, final_chances(SURE, chances))
            self.assertEqual((5, 2), mean_apart(SURE, chances))
            self.assertEqual(((1, 3), (False, False, True, False)), likeliest(SURE, [], chances))
            self.assertIsNone(likeliest(SURE, [(3, 2, 2)], chances))

    def test_no_rows(self):
        for offices in (1, 2, 8):
            log = Log(offices, ())
            self.assertEqual({tuple(range(offices)): (1, 1)}, final_chances(log, ()))
            self.assertEqual((offices, 1), mean_apart(log, ()))
            self.assertEqual(((1, 1), ()), likeliest(log, [], ()))
        self.assertIsNone(likeliest(Log(2, ()), [(0, 0, 1)], ()))

    def test_chances_of_0_and_of_1(self):
        for doing in ((False, True, False, True), (True,) * 4, (False,) * 4):
            chances = tuple((1, 1) if done else (0, 1) for done in doing)
            held = run(4, K.rows, doing)[-1]
            self.assertEqual({held: (1, 1)}, final_chances(K, chances))
            self.assertEqual((len(set(held)), 1), mean_apart(K, chances))
            self.assertEqual(((1, 1), doing), likeliest(K, [], chances))

    def test_all_sheets_that_can_be_there_have_chances(self):
        source = random.Random(204)
        for offices, rows in [(3, rows) for rows in all_rows(3, 2)] + [(5, some_rows(source, 5, 9)) for _ in range(9)]:
            found = final_chances(Log(offices, rows), ((1, 3),) * len(rows))
            self.assertEqual(finals(offices, rows), set(found))
            self.assertEqual(1, sum(Fraction(*one) for one in found.values()))


class Great(unittest.TestCase):
    def judge(self, log, finds, chances):
        """Judge by chances led on over each row."""
        led = led_chances(log.offices, log.rows, chances)
        self.assertEqual({held: pair(one) for held, one in led.items()}, final_chances(log, chances))
        mean = sum((one * len(set(held)) for held, one in led.items()), Fraction(0))
        self.assertEqual(pair(mean), mean_apart(log, chances))
        best = led_likeliest(log.offices, log.rows, finds, chances)
        if best is not None:
            self.assertEqual((pair(-best[0]), best[1]), likeliest(log, finds, chances))

    def test_sixty_rows(self):
        source = random.Random(205)
        for offices in (2, 4, 6):
            for sures in ((False,), (False,) * 5 + (True,)):
                log = Log(offices, some_rows(source, offices, 60, sures))
                self.judge(log, finds_of(source, log, 5), fractions(source, 60, 3))
                self.judge(log, [], fractions(source, 60, 9))

    def test_eight_offices(self):
        source = random.Random(206)
        log = Log(8, some_rows(source, 8, 60, (False,) * 9 + (True,)))
        chances = ((1, 2),) * 60
        found = final_chances(log, chances)
        self.assertEqual(finals_led_on(8, log.rows), set(found))
        self.assertEqual(1, sum(Fraction(*one) for one in found.values()))
        mean = sum(Fraction(*one) * len(set(held)) for held, one in found.items())
        self.assertEqual(pair(mean), mean_apart(log, chances))
        for held in source.sample(sorted(found), 3):
            finds = [(60, office, edition) for office, edition in enumerate(held)]
            self.assertEqual(found[held], chance(log, finds, chances))
            one, doing = likeliest(log, finds, chances)
            self.assertEqual(held, run(8, log.rows, doing)[-1])
            self.assertEqual(pair(chance_apart(log.rows, doing, chances)), one)

    def test_more_than_sixty_rows(self):
        source = random.Random(207)
        for offices, times in ((2, 40), (3, 15), (4, 4)):
            base = some_rows(source, offices, 60, (False,) * 9 + (True,))
            log = behind(repeated(Log(offices, base), times), Log(offices, base[:7]))
            many = len(log.rows)
            self.judge(log, finds_of(source, log, 9), tuple(source.choice(((1, 2), (1, 3), (3, 4))) for _ in range(many)))

    def test_long_fractions(self):
        source = random.Random(208)
        bottom = 10 ** 39 + 7
        one = Fraction(source.randrange(bottom), bottom)
        for offices in (2, 4, 5):
            log = Log(offices, some_rows(source, offices, 9))
            chances = (pair(one), (1, 10 ** 40 - 1)) * 4 + ((10 ** 40 - 2, 10 ** 40 - 1),)
            self.judge(log, finds_of(source, log, 2), chances)


class Wrongs(unittest.TestCase):
    def test_eight_and_nine_offices(self):
        self.assertEqual((15, 2), mean_apart(Log(8, ((0, 1, False),)), ((1, 2),)))
        for offices in range(9, 13):
            log = Log(offices, ((0, 1, False),))
            for function, *args in ((final_chances, ((1, 2),)), (mean_apart, ((1, 2),)), (likeliest, [], ((1, 2),)),
                                    (likeliest, [(0, 0, 1)], ((1, 2),))):
                error = error_of(function, log, *args)
                self.assertEqual((TooMany, 8), (error.__class__, error.most), function.__name__)
            for function, error, *args in ((final_chances, NoChances, ()), (mean_apart, NoChances, ((2, 4),)),
                                           (likeliest, NoFinds, [None], ()), (likeliest, NoChances, [], ((3, 2),))):
                self.assertIs(error, error_of(function, log, *args).__class__, function.__name__)

    def test_wrong_things(self):
        for log in (K, SURE):
            for function in (final_chances, mean_apart):
                try_wrongs(self, function, (log, HALVES), [(1, NoChances, NO_CHANCES)])
            for finds in (FINDS, tuple(FINDS)):
                try_wrongs(self, likeliest, (log, finds, HALVES), [(1, NoFinds, NO_FINDS), (2, NoChances, NO_CHANCES)])

    def test_no_fractions(self):
        for one in NO_FRACTIONS:
            for sure in (False, True):
                log = Log(2, ((0, 1, sure),))
                for function, more in ((final_chances, ()), (mean_apart, ()), (likeliest, ([],))):
                    self.assertIs(NoChances, error_of(function, log, *more, (one,)).__class__, one)

    def test_arguments_stay_and_dicts_are_new(self):
        rows, finds = tuple(list(K.rows)), list(FINDS)
        self.assertEqual(likeliest(K, finds, HALVES), likeliest(Log(4, rows), tuple(finds), tuple(list(HALVES))))
        self.assertEqual((FINDS, K.rows), (finds, rows))
        found = final_chances(K, HALVES)
        kept = dict(found)
        found.clear()
        self.assertEqual(kept, final_chances(K, HALVES))


if __name__ == "__main__":
    unittest.main()
