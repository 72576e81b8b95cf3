import random
import unittest

from itertools import combinations, product
from oracles import (all_lists, all_rows, all_stands, can_be_among, finals, finals_led_on, finds_at_end, passing, run,
                     runs, some_rows, true_in, walk_cost)
from takenover.changes import loosened
from takenover.errors import NoList, SureRow, TooMany
from takenover.lists import bar, can_be, clashing, history, is_bar, is_history, least_barred
from takenover.logs import Log
from wrongs import error_of, nested, try_wrongs, wrong_things

SIDES = ("left", "right")
K = Log(4, ((1, 0, False), (2, 1, False), (2, 3, False), (1, 2, False)))
SURE = Log(4, K.rows[:2] + ((2, 3, True), (1, 2, True)))
NO_LISTS = wrong_things() + [(0, 1, 2), (0, 1, 2, 3, 3), (0, 1, 2, 4), (0, 1, 2, -1), (0, 1, 2, True), [0, 1, 2, 3]]
NO_LISTS += [(None, False, None, None), ("0", None, None, None), (None,) * 3, [None] * 4, (10 ** 39, 0, 0, 0)]
NO_LISTS += [(0, nested(tuple, 35), 0, 0), (0, nested(list, 39), 0, 0), (Log(1, ()), 0, 0, 0)]


def small_logs(sures):
    """Return logs of which all doings and all lists can be gone through."""
    chance = random.Random(51)
    found = [(1, ()), (2, ()), (3, ())] + [(3, rows) for rows in all_rows(3, 2, sures)]
    found += [(2, rows) for rows in all_rows(2, 3, sures)]
    found += [(3, some_rows(chance, 3, 6, sures)) for _ in range(15)]
    found += [(4, some_rows(chance, 4, 7, sures)) for _ in range(4)]
    return found


def some_lists(chance, ends, offices, many):
    """Return lists near such as can be."""
    found = [(None,) * offices]
    for _ in range(many):
        held = list(chance.choice(ends))
        for office in range(offices):
            change = chance.random()
            if change < 0.5:
                held[office] = None if change < 0.35 else chance.randrange(offices)
        found.append(tuple(held))
    return found


def larger_logs(sures):
    """Return logs of more offices, with lists near such as can be."""
    chance = random.Random(52)
    found = []
    for offices, many in ((5, 9), (6, 10), (8, 10), (12, 10)):
        for _ in range(4):
            rows = some_rows(chance, offices, many, sures)
            ends = sorted(finals(offices, rows))
            found.append((offices, rows, ends, some_lists(chance, ends, offices, 15)))
    return found


def with_lists(sures):
    """Return small logs with all lists, and larger ones with some."""
    found = [(offices, rows, sorted(finals(offices, rows)), all_lists(offices)) for offices, rows in small_logs(sures)]
    return found + larger_logs(sures)


def least_by_subsets(ends, editions):
    """Return the least tuple of offices whose editions alone cannot be, all subsets gone through."""
    there = [office for office, edition in enumerate(editions) if edition is not None]
    for many in range(1, len(there) + 1):
        for offices in combinations(there, many):
            alone = tuple(edition if office in offices else None for office, edition in enumerate(editions))
            if not can_be_among(ends, alone):
                return offices
    return None


class Lists(unittest.TestCase):
    def test_all_doings_gone_through(self):
        for offices, rows, ends, lists in with_lists((False, True)) + with_lists((False,)):
            log = Log(offices, rows)
            for editions in lists:
                right = can_be_among(ends, editions)
                self.assertIs(right, can_be(log, editions))
                told = history(log, editions)
                self.assertIs(right, told is not None)
                if right:
                    self.assertTrue(true_in(run(offices, rows, told), finds_at_end(rows, editions)))
                    self.assertTrue(all(done or not row[2] for done, row in zip(told, rows)))
                    self.assertIs(True, is_history(log, editions, told))

    def test_sure_rows_mean_something(self):
        self.assertIs(True, can_be(K, (None, None, 2, None)))
        self.assertIs(False, can_be(SURE, (None, None, 2, None)))
        self.assertIs(False, can_be(SURE, (0, 1, 2, 3)))
        self.assertEqual((2,), least_barred(SURE, (0, 3, 2, 3)))
        self.assertIs(True, can_be(loosened(SURE), (0, 1, 2, 3)))

    def test_histories_are_judged(self):
        for offices, rows in small_logs((False, True)):
            log = Log(offices, rows)
            chance = random.Random(53)
            told = runs(offices, rows)
            for editions in some_lists(chance, sorted(finals(offices, rows)), offices, 3):
                for doing, moments in told.items():
                    right = true_in(moments, finds_at_end(rows, editions))
                    self.assertIs(right, is_history(log, editions, doing))
        for thing in wrong_things() + [(1, 0, 0, 0), (True,) * 3, [True] * 4, (True,) * 5, None]:
            self.assertIs(False, is_history(K, (None,) * 4, thing))
        self.assertIs(False, is_history(SURE, (None,) * 4, (False,) * 4))
        self.assertIs(True, is_history(SURE, (None,) * 4, (False, False, True, True)))

    def test_least_barred_by_all_subsets(self):
        for offices, rows, ends, lists in with_lists((False, True)) + larger_logs((False,)):
            for editions in lists:
                self.assertEqual(least_by_subsets(ends, editions), least_barred(Log(offices, rows), editions))

    def test_least_barred_of_more_offices_together(self):
        chance = random.Random(55)
        sizes = set()
        for offices, many in ((6, 20), (7, 30)) * 15:
            rows = some_rows(chance, offices, many, (False,) * 9 + (chance.random() < 0.5,))
            ends = sorted(finals_led_on(offices, rows))
            for _ in range(25):
                there = chance.randint(2, offices)
                pairs = zip(sorted(chance.sample(range(offices), there)), sorted(chance.sample(range(offices), there)))
                held = dict(pairs)
                editions = tuple(held.get(office) for office in range(offices))
                told = least_barred(Log(offices, rows), editions)
                self.assertEqual(least_by_subsets(ends, editions), told)
                sizes.add(0 if told is None else len(told))
        self.assertLessEqual({0, 1, 2, 3}, sizes)

    def test_least_barred_of_many_offices(self):
        log = Log(12, tuple((office, office - 1, False) for office in range(1, 12)))
        self.assertIsNone(least_barred(log, (0,) * 12))
        self.assertEqual((0,), least_barred(log, (1,) * 12))
        # Office 3 holds edition 2 only where edition 3 is gone ahead of the row by which it could go on.
        self.assertEqual((3, 5), least_barred(log, (None,) * 3 + (2, 4, 3) + (None,) * 6))
        # All editions stay just where no row is done, and the sure last row leaves office 11 with another one.
        self.assertIsNone(least_barred(log, tuple(range(12))))
        self.assertEqual((11,), least_barred(Log(12, log.rows[:-1] + ((11, 10, True),)), tuple(range(12))))

    def test_lists_of_none_alone(self):
        for log in (Log(1, ()), Log(12, ()), K, SURE):
            nothing = (None,) * log.offices
            self.assertIs(True, can_be(log, nothing))
            self.assertIsNone(least_barred(log, nothing))
            self.assertIs(True, is_history(log, nothing, history(log, nothing)))
        self.assertIsNone(bar(K, (None,) * 4))

    def test_without_rows(self):
        log = Log(12, ())
        self.assertEqual((), history(log, tuple(range(12))))
        self.assertEqual((0,), least_barred(log, (1,) + (None,) * 11))
        self.assertEqual((), history(Log(1, ()), (0,)))


class Bars(unittest.TestCase):
    def is_bar_apart(self, offices, rows, editions, thing):
        """Judge a bar of the right form by its description alone."""
        word, one, other = thing
        if word == "fall":
            return one < other and None not in (editions[one], editions[other]) and editions[other] < editions[one]
        if other[1] not in all_stands(offices, rows, one):
            return False
        return len(passing(one, other[0], other[2], editions)) > walk_cost(one, other)

    def test_the_main_fact(self):
        for offices, rows, ends, lists in with_lists((False,)):
            log = Log(offices, rows)
            for editions in lists:
                told = bar(log, editions)
                self.assertIs(can_be_among(ends, editions), told is None, (rows, editions))
                if told is not None:
                    self.assertIs(True, is_bar(log, editions, told))
                    if len(rows) < 7:
                        self.assertTrue(self.is_bar_apart(offices, rows, editions, told))

    def test_all_falls(self):
        for editions in all_lists(3):
            for x, y in product(range(-1, 4), repeat=2):
                right = 0 <= x < y <= 2 and None not in (editions[x], editions[y]) and editions[y] < editions[x]
                self.assertIs(right, is_bar(Log(3, ((0, 1, False),)), editions, ("fall", x, y)))

    def test_all_posts(self):
        rows = ((1, 0, False), (1, 2, False))
        log = Log(3, rows)
        for side in SIDES:
            for stands in product(range(4), repeat=2):
                for first, last in product(range(4), repeat=2):
                    for editions in ((0, 1, 2), (0, None, 2), (0, 0, 2), (1, 1, 1), (None,) * 3, (2, 1, 0)):
                        thing = ("post", side, (first, stands, last))
                        right = self.is_bar_apart(3, rows, editions, thing)
                        self.assertIs(right, is_bar(log, editions, thing))

    def test_what_is_no_bar(self):
        post = (2, (2, 1, 1, 1), 1)
        right = ("post", "right", post)
        editions = (None, 0, 1, None)
        wrong = [["post", "right", post], ("post", "left", post), ("Post", "right", post), ("post", post, "right")]
        wrong += [("post", "right", post, 0), ("post", "right", list(post)), ("fall", "right", post), ("post", 1, post)]
        wrong += [("fall", 1, 2), ("fall", True, 2), ("fall", 1, None), ("fall", nested(tuple, 39), 2), post, None]
        wrong += [("post", "right", (2, (2, 1, 1, nested(tuple, 37)), 1)), ("post", nested(list, 39), post)]
        for thing in wrong + wrong_things():
            self.assertIs(False, is_bar(K, editions, thing))
            self.assertIs(False, is_bar(K, (None,) * 4, thing))
        self.assertIs(True, is_bar(K, editions, right))
        self.assertIs(True, is_bar(K, (None, 2, None, 1), ("fall", 1, 3)))
        for thing in (("fall", True, 3), ("fall", 1, 3, 0), ("fall", 3, 1), ["fall", 1, 3], ("fall", 1, 2)):
            self.assertIs(False, is_bar(K, (None, 2, None, 1), thing))


class Clashing(unittest.TestCase):
    def clashing_apart(self, offices, rows):
        ends = finals(offices, rows)
        alone = {(office, held[office]) for held in ends for office in range(offices)}
        both = {(one, other) for held in ends for one in enumerate(held) for other in enumerate(held)}
        return sorted((one, other) for one in alone for other in alone if one < other and (one, other) not in both)

    def test_all_doings_gone_through(self):
        chance = random.Random(54)
        for sures in ((False,), (False, True)):
            logs = small_logs(sures) + [(6, some_rows(chance, 6, many, sures)) for many in (0, 5, 11)]
            for offices, rows in logs:
                self.assertEqual(self.clashing_apart(offices, rows), clashing(Log(offices, rows)))

    def test_pairs_of_one_office(self):
        self.assertEqual([((0, 0), (0, 1))], clashing(Log(2, ((0, 1, False),))))
        self.assertEqual([], clashing(Log(2, ((0, 1, True),))))
        self.assertEqual([], clashing(Log(1, ())))

    def test_too_many_offices(self):
        self.assertEqual([], clashing(Log(6, ())))
        for offices in range(7, 13):
            error = error_of(clashing, Log(offices, ()))
            self.assertIs(TooMany, error.__class__)
            self.assertEqual(6, error.most)

    def test_new_lists(self):
        log = Log(2, ((0, 1, False),))
        clashing(log).clear()
        self.assertEqual(1, len(clashing(log)))


class Wrongs(unittest.TestCase):
    def test_no_list(self):
        for log, editions in ((K, (None, 0, 1, None)), (SURE, (None, 0, None, 3)), (K, (0, None, None, 3))):
            for function in (can_be, history, least_barred):
                try_wrongs(self, function, (log, editions), [(1, NoList, NO_LISTS)])
            for thing in (None, (True,) * 4, (False, False, True, True)):
                try_wrongs(self, is_history, (log, editions, thing), [(1, NoList, NO_LISTS)])
        for thing in (None, ("fall", 0, 1), ("post", "right", (2, (2, 1, 1, 1), 1))):
            try_wrongs(self, is_bar, (K, (None, 0, 1, None), thing), [(1, NoList, NO_LISTS)])
        try_wrongs(self, bar, (K, (None, 0, 1, None)), [(1, NoList, NO_LISTS)])

    def test_sure_row_ahead_of_no_list(self):
        for log, row in ((SURE, 2), (Log(4, ((0, 1, True),) + K.rows), 0), (Log(4, K.rows + ((0, 1, True),)), 4)):
            for editions in [(0, 1, 2, 3), (None,) * 4] + NO_LISTS:
                error = error_of(bar, log, editions)
                self.assertEqual((SureRow, row), (error.__class__, error.row))
                error = error_of(is_bar, log, editions, None)
                self.assertEqual((SureRow, row), (error.__class__, error.row))

    def test_arguments_stay(self):
        rows, editions = tuple(list(K.rows)), (None, 0, 1, None)
        for function in (can_be, history, bar, least_barred):
            self.assertEqual(function(K, editions), function(Log(4, K.rows), editions))
        self.assertEqual(((None, 0, 1, None), rows), (editions, K.rows))


if __name__ == "__main__":
    unittest.main()
