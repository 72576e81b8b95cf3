"""The examples of the document."""

import unittest

from takenover.borders import borders, read_off
from takenover.dated import fit
from takenover.lists import can_be, is_bar
from takenover.logs import Log, bloodline, sheets
from takenover.orders import orders
from takenover.posts import price

K = Log(4, ((1, 0, False), (2, 1, False), (2, 3, False), (1, 2, False)))


class Examples(unittest.TestCase):
    def test_e01(self):
        self.assertEqual((0, 0, 3, 3), sheets(K, (True, False, True, False)))
        self.assertEqual((0, 1, 2), bloodline(K, (True, True, False, False), 2))

    def test_e02(self):
        self.assertEqual((0, 2, 2, 2, 4), borders((0, 0, 3, 3)))
        self.assertEqual((0, 0, 3, 3), read_off((0, 2, 2, 2, 4)))

    def test_e03(self):
        self.assertEqual(1, price(K, "right", 2, 1))
        self.assertEqual(0, price(K, "left", 1, 1))
        self.assertEqual(1, price(K, "left", 2, 2))

    def test_e04(self):
        self.assertEqual(((0, 3, 1, 2), (1, 2, 0, 3)), orders(K))

    def test_e05(self):
        self.assertIs(True, can_be(K, (None, 0, None, None)))
        self.assertIs(False, can_be(K, (None, 0, 1, None)))
        self.assertIs(True, can_be(K, (None, None, 1, None)))

    def test_e06(self):
        self.assertIs(True, is_bar(K, (None, 0, 1, None), ("post", "right", (2, (2, 1, 1, 1), 1))))

    def test_e08_of_fit(self):
        self.assertIs(False, fit(K, [(2, 2, 0), (4, 1, 1)]))


if __name__ == "__main__":
    unittest.main()
