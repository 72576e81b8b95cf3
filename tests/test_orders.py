import random
import unittest

from itertools import permutations, product
from math import factorial
from oracles import all_rows, all_stands, order_of, some_rows, walk_cost
from takenover.changes import behind, loosened, repeated
from takenover.errors import NoCut, NoNumber, NoOrder, NoSide
from takenover.logs import Log
from takenover.orders import (comes_to_rest, order_at, order_behind, order_number, order_often, orders, price_by,
                              turned)
from wrongs import error_of, nested, try_wrongs, wrong_numbers, wrong_things

SIDES = ("left", "right")
K = Log(4, ((1, 0, False), (2, 1, False), (2, 3, False), (1, 2, False)))
NO_ORDERS = [thing for thing in wrong_things() if thing != (0,)]
NO_ORDERS += [(1,), (0, 0), (0, 2), (1, 2), (0, True), (False, 1), [0, 1], (0, None), ("0", 1), tuple(range(13))]
NO_ORDERS += [(0, 1, nested(tuple, 37)), (0, 1, 2, 4), (-1, 0), (0, 1, 1), "0", (0, 10 ** 39)]
NO_TIMES = wrong_things() + [10 ** 30 + 1, 10 ** 39, "1", (1,), [1]]


def row_by_row(offices, rows):
    return tuple(order_of(offices, rows, side) for side in SIDES)


class Orders(unittest.TestCase):
    def test_exchanges_row_by_row(self):
        chance = random.Random(41)
        logs = [(3, rows) for rows in all_rows(3, 3)] + [(1, ()), (12, ())]
        logs += [(offices, some_rows(chance, offices, 60)) for offices in (2, 4, 7, 12) for _ in range(5)]
        for offices, rows in logs:
            self.assertEqual(row_by_row(offices, rows), orders(Log(offices, rows)))

    def test_sure_rows_mean_nothing(self):
        chance = random.Random(42)
        for _ in range(20):
            log = Log(5, some_rows(chance, 5, 12))
            self.assertEqual(orders(loosened(log)), orders(log))

    def test_price_by_the_order(self):
        for length in range(1, 6):
            for order in permutations(range(length)):
                for first, last in product(range(length + 1), repeat=2):
                    left = sum(1 for number in order[:last] if number >= first)
                    right = sum(1 for number in order[last:] if number < first)
                    self.assertEqual(left, price_by(order, "left", first, last))
                    self.assertEqual(right, price_by(order, "right", first, last))

    def test_the_third_fact(self):
        logs = [(3, rows) for rows in all_rows(3, 2)] + [(2, rows) for rows in all_rows(2, 3)] + [(1, ())]
        for offices, rows in logs:
            told = orders(Log(offices, rows))
            for side, order in zip(SIDES, told):
                stands = all_stands(offices, rows, side)
                for first, last in product(range(offices + 1), repeat=2):
                    least = min(walk_cost(side, (first, stand, last)) for stand in stands)
                    self.assertEqual(least, price_by(order, side, first, last))


class Behind(unittest.TestCase):
    def test_the_log_behind_the_other(self):
        chance = random.Random(43)
        pairs = list(product(all_rows(3, 2, (False,)), repeat=2))
        pairs = [(3, one, other) for one, other in pairs]
        pairs += [(offices, some_rows(chance, offices, many), some_rows(chance, offices, many))
                  for offices in (2, 5, 8, 12) for many in (0, 3, 12, 50) for _ in range(5)]
        for offices, one, other in pairs + [(1, (), ())]:
            both = zip(row_by_row(offices, one), row_by_row(offices, other))
            told = tuple(order_behind(first, second) for first, second in both)
            self.assertEqual(row_by_row(offices, one + other), told)

    def test_every_order_is_led_to(self):
        for length in range(1, 6):
            start = tuple(range(length))
            for order in permutations(range(length)):
                self.assertEqual(order, order_behind(start, order))
                self.assertEqual(order, order_behind(order, start))
                self.assertEqual(start[::-1], order_behind(order, start[::-1]))

    def test_often(self):
        chance = random.Random(44)
        for offices, many in ((1, 0), (2, 1), (3, 2), (5, 3), (7, 5), (12, 11), (12, 40)):
            for _ in range(6):
                rows = some_rows(chance, offices, many)
                ones = row_by_row(offices, rows)
                for times in (0, 1, 2, 3, 5, 30, 70):
                    told = tuple(order_often(one, times) for one in ones)
                    self.assertEqual(row_by_row(offices, rows * times), told)
                far = row_by_row(offices, rows * 100)
                self.assertEqual(far, tuple(order_often(one, 10 ** 30) for one in ones))

    def test_times_of_any_size(self):
        self.assertEqual((1, 2, 0), order_often((1, 2, 0), 1))
        self.assertEqual((2, 1, 0), order_often((1, 2, 0), 2))
        self.assertEqual((2, 1, 0), order_often((1, 2, 0), 10 ** 30))
        self.assertEqual((0, 1, 2), order_often((1, 2, 0), 0))
        self.assertEqual((0,), order_often((0,), 10 ** 30))
        slow = (1, 2, 3, 4, 5, 6, 7, 8, 9, 10, 11, 0)
        self.assertEqual(tuple(range(12))[::-1], order_often(slow, 10 ** 30))
        self.assertEqual(tuple(range(12))[::-1], order_often(slow, 11))
        self.assertNotEqual(tuple(range(12))[::-1], order_often(slow, 10))


class Rest(unittest.TestCase):
    def least_times(self, offices, rows):
        told = [row_by_row(offices, rows * times) for times in range(70)]
        return min(times for times in range(70) if all(pair == told[times] for pair in told[times:]))

    def test_rest(self):
        chance = random.Random(45)
        logs = [(3, rows) for rows in all_rows(3, 3, (False,))] + [(1, ()), (12, ()), (3, ((0, 1, True),))]
        logs += [(offices, some_rows(chance, offices, many)) for offices in (4, 6, 12) for many in (1, 4, 9, 60)]
        for offices, rows in logs:
            self.assertEqual(self.least_times(offices, rows), comes_to_rest(Log(offices, rows)))

    def test_named_cases(self):
        self.assertEqual(0, comes_to_rest(Log(5, ())))
        self.assertEqual(1, comes_to_rest(Log(5, ((3, 2, True),))))
        slow = tuple((office, office + 1, False) for office in range(11))
        self.assertEqual(11, comes_to_rest(Log(12, slow)))
        self.assertEqual(orders(repeated(Log(12, slow), 11)), orders(repeated(Log(12, slow), 100)))


class Numbers(unittest.TestCase):
    def test_all_orders_ascending(self):
        for length in range(1, 7):
            for number, order in enumerate(sorted(permutations(range(length)))):
                self.assertEqual(number, order_number(order))
                self.assertEqual(order, order_at(length, number))

    def test_twelve(self):
        last = factorial(12) - 1
        self.assertEqual(tuple(range(12))[::-1], order_at(12, last))
        self.assertEqual(last, order_number(tuple(range(12))[::-1]))
        chance = random.Random(46)
        for _ in range(200):
            order = tuple(chance.sample(range(12), 12))
            self.assertEqual(order, order_at(12, order_number(order)))

    def test_turned(self):
        for length in range(1, 6):
            for order in permutations(range(length)):
                pairs = [(a, b) for a in range(length) for b in range(a + 1, length)]
                told = tuple((a, b) for a, b in pairs if order.index(b) < order.index(a))
                self.assertEqual(told, turned(order))
        self.assertEqual((), turned((0,)))
        self.assertEqual(66, len(turned(tuple(range(12))[::-1])))


class Wrongs(unittest.TestCase):
    def test_no_order(self):
        for function in (order_number, turned):
            try_wrongs(self, function, ((2, 0, 1),), [(0, NoOrder, NO_ORDERS)])
        try_wrongs(self, order_behind, ((2, 0, 1), (1, 0, 2)), [(0, NoOrder, NO_ORDERS), (1, NoOrder, NO_ORDERS)])
        try_wrongs(self, order_often, ((2, 0, 1), 3), [(0, NoOrder, NO_ORDERS), (1, NoNumber, NO_TIMES)])
        errors = [(0, NoOrder, NO_ORDERS), (1, NoSide, wrong_things() + ["Right", 0, ("left",)])]
        errors += [(2, NoCut, wrong_numbers() + [4, "1"]), (3, NoCut, wrong_numbers() + [4, (0,)])]
        try_wrongs(self, price_by, ((2, 0, 1), "left", 3, 0), errors)

    def test_unlike_lengths(self):
        for one, other in (((0,), (0, 1)), ((0, 1), (0,)), ((2, 0, 1), tuple(range(12)))):
            self.assertIs(NoOrder, error_of(order_behind, one, other).__class__)

    def test_no_number(self):
        lengths = wrong_things() + [0, 13, 10 ** 39, "3", (3,)]
        numbers = wrong_things() + [6, 10 ** 39, "3", (3,)]
        for number in (0, 5):
            try_wrongs(self, order_at, (3, number), [(0, NoNumber, lengths), (1, NoNumber, numbers)])
        for length in range(1, 13):
            self.assertIs(NoNumber, error_of(order_at, length, factorial(length)).__class__)
            self.assertEqual(tuple(range(length))[::-1], order_at(length, factorial(length) - 1))

    def test_arguments_stay(self):
        order, other, rows = (2, 0, 1), (1, 0, 2), tuple(list(K.rows))
        order_behind(order, other), order_often(order, 5), order_number(order), turned(order), comes_to_rest(K), orders(K)
        price_by(order, "left", 1, 2)
        self.assertEqual(((2, 0, 1), (1, 0, 2), rows), (order, other, K.rows))


if __name__ == "__main__":
    unittest.main()
