import random
import unittest

from oracles import finals, finals_led_on, runs, some_rows, there_at, true_in


class Oracles(unittest.TestCase):
    def test_both_ways_to_the_last_sheets_agree(self):
        chance = random.Random(71)
        for offices, many in ((1, 0), (2, 5), (4, 8), (6, 10)):
            for _ in range(10):
                rows = some_rows(chance, offices, many)
                self.assertEqual(finals(offices, rows), finals_led_on(offices, rows))

    def test_both_ways_to_the_sheets_of_finds_agree(self):
        chance = random.Random(72)
        for offices, many in ((1, 0), (2, 5), (4, 8)):
            for _ in range(20):
                rows = some_rows(chance, offices, many)
                numbers = [(chance.randint(0, len(rows)), chance.randrange(offices)) for _ in range(2)]
                finds = [(moment, office, office) for moment, office in numbers]
                told = [moments for moments in runs(offices, rows).values() if true_in(moments, finds)]
                right = [{moments[at] for moments in told} for at in range(len(rows) + 1)]
                self.assertEqual(right, there_at(offices, rows, finds))


if __name__ == "__main__":
    unittest.main()
