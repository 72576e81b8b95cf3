import random
import unittest

from itertools import permutations, product
from math import comb

from oracles import (all_lists, all_rows, can_be_among, finals, finals_led_on, order_of, passing, some_rows)
from takenover.alikes import (count_shortest, let_alike, lets_all, list_beyond, log_of, needless, parting, shortest)
from takenover.changes import behind, loosened, repeated
from takenover.errors import NoOrder, OtherOffices, SureRow, TooMany
from takenover.logs import Log
from takenover.orders import orders
from wrongs import K, SURE, error_of, nested, try_wrongs, wrong_but

LOOSE = (False,)
COMPARE = (let_alike, parting, lets_all, list_beyond)


def both_orders(offices, rows):
    """Return both orders, by exchanges row by row."""
    return order_of(offices, rows, "left"), order_of(offices, rows, "right")


def lists_of(offices, rows):
    """Return the set of all lists that can be."""
    ends = finals(offices, rows)
    return {editions for editions in all_lists(offices) if can_be_among(ends, editions)}


def pairs_of_logs():
    """Return pairs of logs with as many offices."""
    chance = random.Random(91)
    found = [(1, (), ())] + [(2, one, other) for one, other in product(all_rows(2, 2, LOOSE), repeat=2)]
    for offices, times in ((2, 20), (3, 120), (4, 40)):
        for _ in range(times):
            one = some_rows(chance, offices, chance.randint(0, 7), LOOSE)
            other = some_rows(chance, offices, chance.randint(0, 7), LOOSE)
            if chance.random() < 0.3:
                other = tuple(row for row in one if chance.random() < 0.8)
            found.append((offices, one, other))
    return found


def turned_pairs(order):
    """Return how many pairs are turned in an order."""
    return sum(1 for at, one in enumerate(order) for other in order[at + 1:] if other < one)


class Compared(unittest.TestCase):
    def test_all_lists_gone_through(self):
        answers = set()
        for offices, one, other in pairs_of_logs():
            ones, others = lists_of(offices, one), lists_of(offices, other)
            logs = Log(offices, one), Log(offices, other)
            answers.add((ones <= others, others <= ones))
            self.assertIs(ones == others, let_alike(*logs))
            self.assertIs(others <= ones, lets_all(*logs))
            found = list_beyond(*logs)
            self.assertIs(others <= ones, found is None)
            if found is not None:
                self.assertIn(found, others - ones)
            found = parting(*logs)
            self.assertIs(ones == others, found is None)
            if found is not None:
                self.assertIn(found, ones ^ others)
        self.assertEqual(4, len(answers))

    def judge_great(self, offices, one, other):
        logs = Log(offices, ()), Log(offices, ())
        for log, rows in zip(logs, (one, other)):
            log.rows = rows
        self.assertIs(both_orders(offices, one) == both_orders(offices, other), let_alike(*logs))
        fewer = self.is_less_somewhere(offices, one, other)
        found = list_beyond(*logs)
        self.assertIs(fewer, found is not None)
        self.assertIs(not fewer, lets_all(*logs))
        if fewer:
            self.assertTrue(can_be_among(finals_led_on(offices, other), found))
            self.assertFalse(can_be_among(finals_led_on(offices, one), found))
        found = parting(*logs)
        self.assertIs(let_alike(*logs), found is None)
        if found is not None:
            can_be = [can_be_among(finals_led_on(offices, rows), found) for rows in (one, other)]
            self.assertEqual([False, True], sorted(can_be))

    def is_less_somewhere(self, offices, one, other):
        """Tell whether a price of the one log is less, each counted off its orders."""
        for side, ones, others in zip(("left", "right"), both_orders(offices, one), both_orders(offices, other)):
            for first, last in product(range(offices + 1), repeat=2):
                if len(passing(side, first, last, ones)) < len(passing(side, first, last, others)):
                    return True
        return False

    def test_great_logs(self):
        chance = random.Random(92)
        for offices, many in ((6, 20), (6, 60), (5, 300), (3, 3000)):
            for _ in range(4):
                one = some_rows(chance, offices, many, LOOSE)
                kept = chance.choice((0.1, 0.6, 0.95))
                other = tuple(row for row in one if chance.random() < kept)
                some = [row for row in one if row[1] != 1 or row[0] != 2]
                self.judge_great(offices, tuple(some), other)
                self.judge_great(offices, other, tuple(some))
                self.judge_great(offices, one, one[::-1])

    def test_twelve_offices(self):
        for found, logs in ((True, (Log(12, ()), Log(12, ((0, 1, False),)))), (False, (Log(12, ()), Log(12, ())))):
            self.assertIs(found, list_beyond(*logs) is not None)
            self.assertIsNone(list_beyond(*logs[::-1]))
        self.assertEqual((1,), tuple(edition for edition in list_beyond(Log(2, ()), Log(2, ((0, 1, False),)))
                                     if edition is not None))
        one = Log(12, tuple((x, x + 1, False) for x in range(11)) * 5)
        other = repeated(one, 3)
        self.assertIs(False, let_alike(one, other))
        self.assertIs(True, lets_all(other, one))
        self.assertIs(True, let_alike(repeated(one, 50), repeated(one, 60)))

    def test_other_offices_then_sure_rows(self):
        sure_first = Log(4, ((0, 1, False), (1, 0, True), (0, 1, True)))
        for function in COMPARE:
            for one, other in ((K, Log(3, ())), (SURE, Log(5, ((0, 1, True),))), (Log(1, ()), SURE)):
                self.assertIs(OtherOffices, error_of(function, one, other).__class__)
            for one, other, row in ((SURE, K, 2), (K, SURE, 2), (sure_first, SURE, 1), (SURE, sure_first, 2),
                                    (sure_first, K, 1), (K, sure_first, 1), (SURE, SURE, 2)):
                error = error_of(function, one, other)
                self.assertEqual((SureRow, row), (error.__class__, error.row))
            self.assertEqual(function(K, loosened(SURE)), function(K, loosened(SURE)))


class Shortest(unittest.TestCase):
    def test_all_logs_of_few_rows_gone_through(self):
        for offices, most in ((1, 0), (2, 3), (3, 5)):
            by_orders = {}
            for many in range(most + 1):
                for rows in all_rows(offices, many, LOOSE):
                    by_orders.setdefault(both_orders(offices, rows), []).append(rows)
            for told, logs in by_orders.items():
                fewest = len(logs[0])
                right = [rows for rows in logs if len(rows) == fewest]
                for rows in logs[:3] + logs[-3:]:
                    found = shortest(Log(offices, rows))
                    self.assertIn(found.rows, right)
                    self.assertEqual(len(right), count_shortest(Log(offices, rows)))
                self.assertIn(log_of(*told).rows, right)

    def test_more_rows(self):
        chance = random.Random(93)
        for offices, many in ((4, 8), (5, 30), (8, 60), (12, 60), (3, 3000), (12, 700)):
            for _ in range(5):
                rows = some_rows(chance, offices, many, LOOSE)
                log = Log(offices, ())
                log.rows = rows
                found = shortest(log)
                told = both_orders(offices, rows)
                self.assertEqual(told, both_orders(offices, found.rows))
                self.assertEqual(offices, found.offices)
                self.assertEqual(sum(map(turned_pairs, told)), len(found.rows))
                self.assertTrue(all(row[2] is False for row in found.rows))
                self.assertIs(True, let_alike(log, found))

    def test_logs_of_all_orders(self):
        for length in (1, 2, 3, 4):
            for left, right in product(permutations(range(length)), repeat=2):
                log = log_of(left, right)
                self.assertEqual((length, (left, right)), (log.offices, both_orders(length, log.rows)))
                self.assertEqual(turned_pairs(left) + turned_pairs(right), len(log.rows))
                self.assertFalse(any(sure for _, _, sure in log.rows))

    def test_everything_turned(self):
        self.assertEqual(Log(1, ()), log_of((0,), (0,)))
        turned = tuple(range(12))[::-1]
        log = log_of(turned, turned)
        self.assertEqual(132, len(log.rows))
        self.assertEqual((turned, turned), orders(log))
        self.assertEqual((turned, turned), both_orders(12, log.rows))
        self.assertEqual(132, len(shortest(behind(log, log)).rows))
        self.assertEqual((), log_of(tuple(range(12)), tuple(range(12))).rows)
        self.assertEqual(66, len(log_of(turned, tuple(range(12))).rows))

    def test_counts_of_everything_turned(self):
        # Ways from the ascending order to the one with everything turned, as staircase tableaux are counted.
        for length, ways in ((1, 1), (2, 1), (3, 2), (4, 16), (5, 768), (6, 292864)):
            turned = tuple(range(length))[::-1]
            many = length * (length - 1) // 2
            self.assertEqual(ways * ways * comb(2 * many, many), count_shortest(log_of(turned, turned)))
            self.assertEqual(ways, count_shortest(log_of(tuple(range(length)), turned)))
        self.assertEqual(1, count_shortest(Log(6, ())))

    def test_needless_rows_gone_through(self):
        chance = random.Random(94)
        logs = [(1, ()), (3, ())] + [(3, rows) for rows in all_rows(3, 3, LOOSE)]
        logs += [(offices, some_rows(chance, offices, many, LOOSE)) for offices in (2, 4, 6, 12) for many in (5, 12, 60)]
        for offices, rows in logs + [(4, some_rows(chance, 4, 300, LOOSE))]:
            told = both_orders(offices, rows)
            right = [at for at in range(len(rows)) if both_orders(offices, rows[:at] + rows[at + 1:]) == told]
            log = Log(offices, ())
            log.rows = rows
            self.assertEqual(tuple(right), needless(log))
        self.assertEqual((), needless(K))
        self.assertEqual((0, 1), needless(Log(2, ((0, 1, False),) * 2)))

    def test_great_needless(self):
        chance = random.Random(95)
        base = some_rows(chance, 3, 60, LOOSE)
        log = repeated(Log(3, base), 60)
        self.assertEqual(tuple(range(3600)), needless(log))
        lone = Log(6, ((4, 5, False),))
        self.assertEqual(tuple(at for at in range(121) if at != 60), needless(behind(behind(
            Log(6, ((0, 1, False),) * 60), lone), Log(6, ((0, 1, False),) * 60))))

    def test_sure_rows_then_too_many(self):
        for function in (shortest, needless, count_shortest):
            for offices in (4, 7):
                for rows, row in ((((0, 1, True),), 0), (((0, 1, False), (1, 0, True)), 1)):
                    error = error_of(function, Log(offices, rows))
                    self.assertEqual((SureRow, row), (error.__class__, error.row))
        for offices in range(7, 13):
            error = error_of(count_shortest, Log(offices, ()))
            self.assertEqual((TooMany, 6), (error.__class__, error.most))
        self.assertEqual(2, count_shortest(Log(6, ((4, 5, False), (1, 0, False)))))


class Wrongs(unittest.TestCase):
    def test_no_orders(self):
        wrong = wrong_but([(0,)]) + [(0, 1, 2, 2), (0, 1, 2, 4), (1, 2, 3, 4), [0, 1, 2, 3], (0, 1, 2, True)]
        wrong += [(0, 1, 2, -1), (False, True, 2, 3), tuple(range(13)), (0, 1, 2, nested(tuple, 35)), (0, 1, 2, "3")]
        try_wrongs(self, log_of, ((1, 0, 2, 3), (0, 3, 1, 2)), [(0, NoOrder, wrong), (1, NoOrder, wrong)])

    def test_orders_of_unlike_lengths(self):
        for one, other in (((0,), (0, 1)), ((1, 0), (0,)), (tuple(range(12)), tuple(range(11))), ((0, 1), (2, 1, 0))):
            self.assertIs(NoOrder, error_of(log_of, one, other).__class__)

    def test_arguments_stay(self):
        rows = tuple(list(K.rows))
        for function in COMPARE:
            self.assertEqual(function(K, Log(4, ())), function(Log(4, rows), Log(4, ())))
        for function in (shortest, needless, count_shortest):
            self.assertEqual(function(K), function(K))
        self.assertEqual((4, rows), (K.offices, K.rows))


if __name__ == "__main__":
    unittest.main()
