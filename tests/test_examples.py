"""The examples of the document."""

import unittest

from takenover.borders import borders, read_off
from takenover.logs import Log, bloodline, sheets

K = Log(4, ((1, 0, False), (2, 1, False), (2, 3, False), (1, 2, False)))


class Examples(unittest.TestCase):
    def test_e01(self):
        self.assertEqual((0, 0, 3, 3), sheets(K, (True, False, True, False)))
        self.assertEqual((0, 1, 2), bloodline(K, (True, True, False, False), 2))

    def test_e02(self):
        self.assertEqual((0, 2, 2, 2, 4), borders((0, 0, 3, 3)))
        self.assertEqual((0, 0, 3, 3), read_off((0, 2, 2, 2, 4)))


if __name__ == "__main__":
    unittest.main()
