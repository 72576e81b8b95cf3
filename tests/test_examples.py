"""The examples of the document."""

import unittest

from takenover.borders import borders, read_off
from takenover.counts import count_doings, count_final, fewest_done
from takenover.dated import fit
from takenover.ends import can_be_alone, can_hold
from takenover.lists import can_be, is_bar
from takenover.logs import Log, bloodline, sheets
from takenover.orders import orders
from takenover.posts import price
from takenover.telling import told
from takenover.texts import log_text
from takenover.webs import Web, greatest_lot, is_block, is_ways

K = Log(4, ((1, 0, False), (2, 1, False), (2, 3, False), (1, 2, False)))
W = Web(3, ((0, 1, True), (2, 1, True), (1, 0, False)))


class Examples(unittest.TestCase):
    def test_e01(self):
        self.assertEqual((0, 0, 3, 3), sheets(K, (True, False, True, False)))
        self.assertEqual((0, 1, 2), bloodline(K, (True, True, False, False), 2))

    def test_e02(self):
        self.assertEqual((0, 2, 2, 2, 4), borders((0, 0, 3, 3)))
        self.assertEqual((0, 0, 3, 3), read_off((0, 2, 2, 2, 4)))

    def test_e03(self):
        self.assertEqual(1, price(K, "right", 2, 1))
        self.assertEqual(0, price(K, "left", 1, 1))
        self.assertEqual(1, price(K, "left", 2, 2))

    def test_e04(self):
        self.assertEqual(((0, 3, 1, 2), (1, 2, 0, 3)), orders(K))

    def test_e05(self):
        self.assertIs(True, can_be(K, (None, 0, None, None)))
        self.assertIs(False, can_be(K, (None, 0, 1, None)))
        self.assertIs(True, can_be(K, (None, None, 1, None)))

    def test_e06(self):
        self.assertIs(True, is_bar(K, (None, 0, 1, None), ("post", "right", (2, (2, 1, 1, 1), 1))))

    def test_e07(self):
        self.assertEqual((0, 1, 2, 3), can_hold(K, 1))
        self.assertEqual((), can_be_alone(K))

    def test_e08(self):
        self.assertIs(False, fit(K, [(2, 2, 0), (4, 1, 1)]))
        self.assertEqual("open", told(K, [(4, 1, 2)], (1, 1, 1)))

    def test_e09(self):
        self.assertEqual(16, count_doings(K, []))
        self.assertEqual(8, count_final(K))
        self.assertEqual((2, (False, False, True, True)), fewest_done(K, [(4, 1, 3)]))

    def test_e10(self):
        self.assertEqual((1,), greatest_lot(W))
        self.assertIs(True, is_block(W, (0, 1), ((0, 1),)))
        self.assertIs(True, is_ways(W, (1,), ((1, 1, 1, 1),)))

    def test_e11(self):
        self.assertEqual("offices 4\nrow 1 0\nrow 2 1\nrow 2 3\nrow 1 2\n", log_text(K))


if __name__ == "__main__":
    unittest.main()
