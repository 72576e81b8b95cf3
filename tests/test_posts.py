import random
import unittest

from itertools import product
from oracles import all_lists, all_rows, all_stands, finals, order_of, passing, rising, some_rows, walk_cost
from takenover.changes import loosened
from takenover.errors import NoCut, NoList, NoPost, NoSide
from takenover.logs import Log
from takenover.posts import is_post, passed, post, post_price, price, prices
from wrongs import nested, try_wrongs, wrong_numbers, wrong_things

SIDES = ("left", "right")
K = Log(4, ((1, 0, False), (2, 1, True), (2, 3, False), (1, 2, False)))
POST = (2, (2, 1, 1, 1), 1)


def small_logs():
    """Return logs of which all stands of posts can be gone through."""
    chance = random.Random(31)
    found = [(1, ()), (2, ()), (4, ())] + [(3, rows) for rows in all_rows(3, 2)] + [(2, rows) for rows in all_rows(2, 3)]
    found += [(3, some_rows(chance, 3, 4)) for _ in range(30)] + [(4, some_rows(chance, 4, 4)) for _ in range(10)]
    return [Log(offices, rows) for offices, rows in found]


def least_by_stands(log, side, first):
    """Return the least costs of posts from a cut to all cuts, all stands gone through."""
    ends = range(log.offices + 1)
    stands = all_stands(log.offices, log.rows, side)
    return tuple(min(walk_cost(side, (first, stand, last)) for stand in stands) for last in ends)


class Judging(unittest.TestCase):
    def test_all_stands_of_small_logs(self):
        for offices, rows in [(1, ()), (2, ())] + [(3, rows) for rows in all_rows(3, 2, (True,))]:
            for side in SIDES:
                stands = all_stands(offices, rows, side)
                for stand in product(range(-1, offices + 2), repeat=len(rows)):
                    self.assertIs(stand in stands, is_post(Log(offices, rows), side, (0, stand, offices)))

    def test_ends(self):
        for first, last in product(range(-1, 7), repeat=2):
            right = 0 <= first <= 4 and 0 <= last <= 4
            self.assertIs(right, is_post(K, "left", (first, (0, 0, 0, 0), last)))

    def test_what_is_no_post(self):
        wrong = [(2, [2, 1, 1, 1], 1), [2, (2, 1, 1, 1), 1], (2, (2, 1, 1), 1), (2, (2, 1, 1, 1, 1), 1), (2, (2, 1, 1, 1))]
        wrong += [(True, (2, 1, 1, 1), 1), (2, (2, True, 1, 1), 1), (2, (2, 1, 1, 1), True), (2, (2, None, 1, 1), 1)]
        wrong += [(2, (2, 1, 1, 1), 1, 0), ("2", (2, 1, 1, 1), 1), (2, (nested(tuple, 38), 1, 1, 1), 1), (5, (2, 1, 1, 1), 1)]
        for thing in wrong + wrong_things():
            for side in SIDES:
                self.assertIs(False, is_post(K, side, thing))
        self.assertIs(True, is_post(K, "right", POST))
        self.assertIs(False, is_post(K, "left", (2, (2, 1, 3, 1), 1)))
        self.assertIs(False, is_post(K, "left", (2, (2, 1, 1, 2), 1)))
        self.assertIs(False, is_post(K, "right", (2, (1, 1, 1, 1), 1)))
        self.assertIs(False, is_post(K, "right", (2, (2, 2, 1, 1), 1)))

    def test_first_and_last_cut(self):
        for side in SIDES:
            self.assertIs(True, is_post(K, side, (0, (0, 0, 0, 0), 0)))
            self.assertIs(True, is_post(K, side, (4, (4, 4, 4, 4), 4)))
        self.assertEqual(4, post_price(K, "left", (0, (0, 4, 4, 4), 4)))
        self.assertEqual(0, post_price(K, "right", (0, (0, 4, 4, 4), 4)))
        self.assertEqual(8, post_price(K, "right", (4, (0, 4, 4, 4), 0)))


class Prices(unittest.TestCase):
    def test_all_stands_gone_through(self):
        for log in small_logs():
            for side in SIDES:
                table = [least_by_stands(log, side, first) for first in range(log.offices + 1)]
                self.assertEqual(tuple(table), prices(log, side))
                for first, last in product(range(log.offices + 1), repeat=2):
                    self.assertEqual(table[first][last], price(log, side, first, last))
                    thing = post(log, side, first, last)
                    self.assertIn(thing[1], all_stands(log.offices, log.rows, side))
                    self.assertEqual((first, last), (thing[0], thing[2]))
                    self.assertEqual(table[first][last], walk_cost(side, thing))
                    self.assertIs(True, is_post(log, side, thing))

    def test_post_price_of_all_posts(self):
        for log in (Log(2, ((0, 1, False), (1, 0, True))), Log(3, ((0, 1, True), (2, 1, False))), Log(1, ())):
            cuts = range(log.offices + 1)
            for side in SIDES:
                for stands in all_stands(log.offices, log.rows, side):
                    for first, last in product(cuts, repeat=2):
                        thing = (first, stands, last)
                        self.assertEqual(walk_cost(side, thing), post_price(log, side, thing))

    def test_larger_logs_by_the_third_fact(self):
        chance = random.Random(32)
        for offices, many in ((6, 20), (9, 40), (12, 60), (12, 0), (1, 0)):
            rows = some_rows(chance, offices, many)
            log = Log(offices, rows)
            for side in SIDES:
                order = order_of(offices, rows, side)
                for first, last in product(range(offices + 1), repeat=2):
                    if side == "left":
                        told = sum(1 for number in order[:last] if number >= first)
                    else:
                        told = sum(1 for number in order[last:] if number < first)
                    self.assertEqual(told, price(log, side, first, last))
                    self.assertEqual(told, prices(log, side)[first][last])
                    self.assertEqual(told, walk_cost(side, post(log, side, first, last)))
                    self.assertIs(True, is_post(log, side, post(log, side, first, last)))

    def test_sure_rows_mean_nothing(self):
        chance = random.Random(33)
        for _ in range(20):
            log = Log(4, some_rows(chance, 4, 9))
            for side in SIDES:
                self.assertEqual(prices(loosened(log), side), prices(log, side))
                self.assertEqual(post(loosened(log), side, 3, 1), post(log, side, 3, 1))

    def test_without_rows(self):
        self.assertEqual(((0, 1), (0, 0)), prices(Log(1, ()), "left"))
        self.assertEqual(((0, 0), (1, 0)), prices(Log(1, ()), "right"))
        self.assertEqual((1, (), 0), post(Log(1, ()), "right", 1, 0))
        self.assertEqual(12, price(Log(12, ()), "left", 0, 12))


class Passing(unittest.TestCase):
    def test_passed_tells_the_editions_of_the_list(self):
        log = Log(3, ((0, 1, False), (2, 1, True)))
        for side in SIDES:
            for first, last in product(range(4), repeat=2):
                thing = post(log, side, first, last)
                for editions in all_lists(3):
                    told = tuple(sorted(passing(side, first, last, editions)))
                    self.assertEqual(told, passed(log, side, thing, editions))

    def test_each_unlike_edition_stands_once(self):
        self.assertEqual((1, 2), passed(K, "left", (1, (0, 0, 0, 0), 4), (2, 1, None, 2)))
        self.assertEqual((0, 1), passed(K, "right", POST, (1, 0, 1, 0)))
        self.assertEqual((), passed(K, "right", POST, (None,) * 4))
        self.assertEqual((0, 1, 2, 3), passed(K, "left", (0, (0, 0, 0, 0), 4), (3, 2, 1, 0)))
        self.assertEqual((0, 1, 2, 3), passed(K, "right", (4, (4, 4, 4, 4), 0), (0, 1, 2, 3)))

    def test_the_second_fact(self):
        logs = [(3, rows) for rows in all_rows(3, 3)]
        chance = random.Random(34)
        logs += [(5, some_rows(chance, 5, 8)) for _ in range(10)]
        for offices, rows in logs:
            for side in SIDES:
                table = prices(Log(offices, rows), side)
                for held in finals(offices, rows):
                    for first, last in product(range(offices + 1), repeat=2):
                        self.assertLessEqual(len(passing(side, first, last, held)), table[first][last])

    def test_sheets_of_logs_without_sure_rows_are_all_that_pass_no_post_too_often(self):
        for rows in all_rows(3, 3, (False,)):
            tables = [(side, prices(Log(3, rows), side)) for side in SIDES]
            for held in rising(3):
                let = all(len(passing(side, first, last, held)) <= table[first][last]
                          for side, table in tables for first, last in product(range(4), repeat=2))
                self.assertEqual(held in finals(3, rows), let)


class Wrongs(unittest.TestCase):
    def test_sides_ahead_of_the_rest(self):
        sides = wrong_things() + ["lefts", "Right", b"right", 0, 1, ("left",), ["right"]]
        cuts = wrong_numbers() + [5, "1", (1,), [0]]
        things = wrong_things() + [(2, (2, 1, 1), 1), (2, (1, 1, 1, 1), 1), (2, (2, 1, 1, 1), 5), (2, (2, 1, 1, True), 1)]
        lists = wrong_things() + [(0, 1, 2), (0, 1, 2, 4), (0, 1, 2, True), [0, 1, 2, 3], (0, 1, 2, "3"), (0, 1, 2, -1)]
        lists += [(0, 1, 2, nested(tuple, 39)), (0, 1, 2, 3, None)]
        for function in (price, post):
            errors = [(1, NoSide, sides), (2, NoCut, cuts), (3, NoCut, cuts)]
            try_wrongs(self, function, (K, "right", 2, 4), errors)
        try_wrongs(self, prices, (K, "left"), [(1, NoSide, sides)])
        try_wrongs(self, is_post, (K, "right", POST), [(1, NoSide, sides)])
        try_wrongs(self, is_post, (K, "right", None), [(1, NoSide, sides)])
        try_wrongs(self, post_price, (K, "right", POST), [(1, NoSide, sides), (2, NoPost, things)])
        errors = [(1, NoSide, sides), (2, NoPost, things), (3, NoList, lists)]
        try_wrongs(self, passed, (K, "right", POST, (0, None, 3, 3)), errors)

    def test_arguments_stay(self):
        rows, thing, editions = tuple(list(K.rows)), (2, (2, 1, 1, 1), 1), (0, None, 3, 3)
        passed(K, "right", thing, editions), post_price(K, "right", thing), post(K, "left", 1, 1), prices(K, "left")
        self.assertEqual((4, rows), (K.offices, K.rows))
        self.assertEqual(((2, (2, 1, 1, 1), 1), (0, None, 3, 3)), (thing, editions))
        self.assertEqual(post(K, "left", 2, 2), post(Log(4, K.rows), "left", 2, 2))


if __name__ == "__main__":
    unittest.main()
