"""Logs that were returned and have more rows than a log that is constructed."""

import random
import unittest

from oracles import (can_be_among, cuts_of, finals_led_on, finds_at_end, order_of, passing, run, some_rows, there_at,
                     true_in, walk_cost)
from takenover.borders import border_path
from takenover.changes import behind, can_follow, loosened, mirrored, repeated, with_row, without
from takenover.dated import doing_for, fit, greatest_cuts, is_doing_for, least_cuts, mirrored_finds
from takenover.errors import NoDoing, NoFinds, NoPost, NoRow, SureRow
from takenover.lists import bar, can_be, clashing, history, is_bar, is_history, least_barred
from takenover.logs import Log, all_sheets, bloodline, idle_done, is_doing, sheets
from takenover.orders import comes_to_rest, order_behind, order_often, orders, price_by
from takenover.posts import is_post, passed, post, post_price, price, prices
from wrongs import error_of


class Long(unittest.TestCase):
    def setUp(self):
        chance = random.Random(21)
        base = some_rows(chance, 5, 60)
        self.rows = base * 70 + ((4, 3, True),)
        self.log = with_row(behind(repeated(Log(5, base), 30), repeated(Log(5, base), 40)), 4200, (4, 3, True))
        self.doing = tuple(sure or chance.random() < 0.1 for _, _, sure in self.rows)
        self.moments = run(5, self.rows, self.doing)

    def test_rows_of_what_is_returned(self):
        self.assertEqual(self.rows, self.log.rows)
        self.assertEqual(tuple((4 - x, 4 - y, sure) for x, y, sure in self.rows), mirrored(self.log).rows)
        self.assertEqual(self.rows[:-1], without(self.log, 4200).rows)
        self.assertEqual(self.rows[:100] + self.rows[101:], without(self.log, 100).rows)
        self.assertEqual(tuple((x, y, False) for x, y, _ in self.rows), loosened(self.log).rows)
        self.assertEqual(self.rows * 2, behind(self.log, self.log).rows)
        self.assertEqual(self.rows * 3, repeated(self.log, 3).rows)
        self.assertTrue(with_row(without(self.log, 4200), 4200, (4, 3, True)) == self.log)
        self.assertFalse(without(self.log, 4200) == self.log)

    def test_sixty_and_sixty_one_rows(self):
        log = Log(2, ((0, 1, False),) * 60)
        more = with_row(log, 60, (1, 0, False))
        self.assertEqual(61, len(more.rows))
        self.assertEqual((0, 0), sheets(more, (False,) * 60 + (True,)))
        self.assertEqual(log, without(more, 60))
        self.assertEqual(120, len(repeated(log, 2).rows))

    def test_what_is_told_of_a_doing(self):
        self.assertIs(True, is_doing(self.log, self.doing))
        self.assertIs(False, is_doing(self.log, self.doing[1:]))
        self.assertIs(False, is_doing(self.log, self.doing[:-1] + (False,)))
        self.assertEqual(self.moments, all_sheets(self.log, self.doing))
        self.assertEqual(self.moments[-1], sheets(self.log, self.doing))
        idle = [at for at, done in enumerate(self.doing) if done and self.moments[at] == self.moments[at + 1]]
        self.assertEqual(tuple(idle), idle_done(self.log, self.doing))
        for office in range(5):
            line = bloodline(self.log, self.doing, office)
            self.assertEqual((self.moments[-1][office], office), (line[0], line[-1]))
            self.assertTrue(all(abs(one - other) == 1 for one, other in zip(line, line[1:])))

    def test_border_paths(self):
        cuts = [cuts_of(held) for held in self.moments]
        for border in range(6):
            self.assertEqual([stand[border] for stand in cuts], border_path(self.log, self.doing, border))

    def test_rows_by_their_number(self):
        self.assertEqual(((0, 1, 2, 3, 4), (0, 1, 2, 3, 3)), can_follow(self.log, (0, 1, 2, 3, 4), 4200))
        self.assertIs(NoRow, error_of(can_follow, self.log, (0, 1, 2, 3, 4), 4201).__class__)
        self.assertIs(NoRow, error_of(without, self.log, 4201).__class__)
        self.assertIs(NoRow, error_of(with_row, self.log, 4202, (0, 1, True)).__class__)
        self.assertIs(NoDoing, error_of(sheets, self.log, self.doing[:60]).__class__)


def few_rows(chance, many):
    """Return rows in which the offices 1 and 3 never copy, so that not every list can be."""
    return tuple(chance.choice(((0, 1, False), (2, 1, False), (2, 3, False), (4, 3, False))) for _ in range(many))


class LongAtTheEnd(unittest.TestCase):
    def setUp(self):
        chance = random.Random(22)
        base = some_rows(chance, 5, 60, (False,) * 9 + (True,))
        loose = few_rows(chance, 60)
        self.logs = [behind(repeated(Log(5, base), 50), Log(5, loose)), repeated(Log(5, loose), 60)]
        self.lists = [(None,) * 5, (0, 1, 2, 3, 4), (1, 1, None, None, 3), (None, 1, None, 3, None), (2, 2, 2, 2, 2)]
        self.lists += [tuple(chance.choice((None, 0, 1, 2, 3, 4)) for _ in range(5)) for _ in range(15)]

    def test_posts_and_orders(self):
        for log in self.logs:
            told = orders(log)
            for side, order in zip(("left", "right"), told):
                self.assertEqual(order_of(5, log.rows, side), order)
                table = prices(log, side)
                for first in range(6):
                    for last in range(6):
                        thing = post(log, side, first, last)
                        self.assertIs(True, is_post(log, side, thing))
                        self.assertEqual(walk_cost(side, thing), table[first][last])
                        self.assertEqual(walk_cost(side, thing), post_price(log, side, thing))
                        self.assertEqual(price_by(order, side, first, last), price(log, side, first, last))
                        self.assertEqual(price_by(order, side, first, last), table[first][last])
                        for editions in self.lists:
                            right = tuple(sorted(passing(side, first, last, editions)))
                            self.assertEqual(right, passed(log, side, thing, editions))
                self.assertIs(False, is_post(log, side, (0, (0,) * 60, 0)))
                self.assertIs(NoPost, error_of(post_price, log, side, (0, (0,) * 60, 0)).__class__)
            twice = orders(repeated(log, 2))
            self.assertEqual(twice, tuple(order_behind(order, order) for order in told))
            self.assertEqual(twice, tuple(order_often(order, 2) for order in told))
            self.assertEqual(orders(repeated(log, comes_to_rest(log))), orders(repeated(log, comes_to_rest(log) + 1)))

    def test_lists(self):
        for log in self.logs:
            ends = finals_led_on(5, log.rows)
            answers = set()
            for editions in self.lists:
                right = can_be_among(ends, editions)
                answers.add(right)
                self.assertIs(right, can_be(log, editions))
                doing = history(log, editions)
                self.assertIs(right, doing is not None)
                offices = least_barred(log, editions)
                self.assertIs(right, offices is None)
                if right:
                    self.assertTrue(true_in(run(5, log.rows, doing), finds_at_end(log.rows, editions)))
                    self.assertIs(True, is_history(log, editions, doing))
                else:
                    alone = tuple(edition if office in offices else None for office, edition in enumerate(editions))
                    self.assertFalse(can_be_among(ends, alone))
            self.assertEqual({True, False}, answers)
            alone = {(office, held[office]) for held in ends for office in range(5)}
            both = {(one, other) for held in ends for one in enumerate(held) for other in enumerate(held)}
            right = sorted((a, b) for a in alone for b in alone if a < b and (a, b) not in both)
            self.assertEqual(right, clashing(log))

    def test_bars(self):
        sure, log = self.logs
        first = [at for at, row in enumerate(sure.rows) if row[2]][0]
        self.assertEqual(first, error_of(bar, sure, (None,) * 5).row)
        self.assertIs(SureRow, error_of(is_bar, sure, (None,) * 5, None).__class__)
        for log in (log, loosened(sure)):
            ends = finals_led_on(5, log.rows)
            for editions in self.lists:
                told = bar(log, editions)
                self.assertIs(can_be_among(ends, editions), told is None)
                self.assertIs(told is not None, is_bar(log, editions, told))

    def test_dated_finds(self):
        chance = random.Random(23)
        for log in self.logs:
            many = len(log.rows)
            moments = run(5, log.rows, tuple(sure or chance.random() < 0.02 for _, _, sure in log.rows))
            places = [(0, 3), (many, 2)] + [(chance.randint(0, many), chance.randrange(5)) for _ in range(20)]
            finds = [(moment, office, moments[moment][office]) for moment, office in places]
            there = there_at(5, log.rows, finds)
            self.assertIs(True, fit(log, finds))
            self.assertTrue(true_in(run(5, log.rows, doing_for(log, finds)), finds))
            self.assertIs(True, is_doing_for(log, finds, doing_for(log, finds)))
            for function, choose in ((least_cuts, min), (greatest_cuts, max)):
                right = tuple(tuple(map(choose, zip(*map(cuts_of, at)))) for at in there)
                self.assertEqual(right, function(log, finds))
            self.assertIs(True, fit(mirrored(log), mirrored_finds(log, finds)))
            for finds in (finds + [(many, 2, 0), (many, 2, 4)], [(many // 2, 0, 4), (many // 2 + 1, 4, 0)]):
                self.assertEqual([set()] * (many + 1), there_at(5, log.rows, finds))
                self.assertIs(False, fit(log, finds))
                self.assertIsNone(doing_for(log, finds))
                self.assertIsNone(greatest_cuts(log, finds))
            self.assertIs(NoFinds, error_of(fit, log, [(many + 1, 0, 0)]).__class__)


if __name__ == "__main__":
    unittest.main()
