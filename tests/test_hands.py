import random
import unittest

from oracles import some_rows, subsets, there_at, true_in
from samples import with_finds
from takenover.changes import repeated
from takenover.errors import NoFinds, NoHands
from takenover.hands import could_do, least_hands, surely_hands
from takenover.logs import Log
from wrongs import K, NO_FINDS, SURE, error_of, nested, try_wrongs, wrong_but

SIZES = ((1, 0, 3), (2, 6, 20), (3, 7, 40), (4, 8, 40), (5, 9, 10), (8, 9, 3), (12, 9, 2))
FINDS = [(3, 2, 3), (4, 1, 3)]
NO_HANDS = wrong_but([]) + [(0, 1, 2), (0, 1, 2, 3, 4), (0, 1, 2, 12), (0, 1, 2, -1), (0, 1, 2, True), [0, 1, 2, 3]]
NO_HANDS += [(0, 1, 2, None), (0, 1, 2, "3"), (0, 1, 2, nested(tuple, 35)), (10 ** 39, 0, 0, 0), (False,) * 4]
NO_LOTS = wrong_but([(), (0,)]) + [[0, 1], (1, 0), (0, 0), (0, 1, 1), (12,), (-1,), (True,), (0, True), (0, None)]
NO_LOTS += [(0, nested(list, 39)), ("0",), ((0,),), tuple(range(13)), (0, 10 ** 39), {0: 1}, {1}, frozenset([1])]


def least_of(lots):
    """Return those of some lots that have none of the others in them, ascending."""
    return sorted(lot for lot in lots if not any(set(other) < set(lot) for other in lots))


class Hands(unittest.TestCase):
    def judge(self, log, finds, hands, lots):
        """Judge by the lots, of hands that are there, that could do it."""
        least = least_of(lots)
        self.assertEqual(least, least_hands(log, finds, hands), (log.rows, finds, hands))
        sure = tuple(sorted(set.intersection(*map(set, least)))) if least else None
        self.assertEqual(sure, surely_hands(log, finds, hands))
        return least

    def test_all_doings_gone_through(self):
        chance = random.Random(141)
        many_lots = set()
        for offices, rows, told, finds in with_finds(142, SIZES):
            right = [doing for doing, moments in told.items() if true_in(moments, finds)]
            log = Log(offices, rows)
            hands = tuple(chance.choice((0, 3, 7, 10, 11)) for _ in rows)
            there = tuple(sorted(set(hands)))
            needed = [{hand for hand, done in zip(hands, doing) if done} for doing in right]
            lots = [lot for lot in subsets(there) if any(some <= set(lot) for some in needed)]
            for lot in subsets(there):
                self.assertIs(lot in lots, could_do(log, finds, hands, lot))
                more = tuple(sorted(set(lot) | {1, 8}))
                self.assertIs(lot in lots, could_do(log, tuple(finds), hands, more))
            many_lots.add(len(self.judge(log, finds, hands, lots)))
        self.assertLess({0, 1, 2}, many_lots)

    def test_no_rows_and_no_finds(self):
        for log in (Log(1, ()), Log(12, ())):
            self.assertIs(True, could_do(log, [], (), ()))
            self.assertIs(True, could_do(log, [(0, 0, 0)], (), (0, 11)))
            self.assertEqual(([()], ()), (least_hands(log, [], ()), surely_hands(log, (), ())))
        self.assertEqual(([], None), (least_hands(Log(2, ()), [(0, 0, 1)], ()), surely_hands(Log(2, ()), [(0, 0, 1)], ())))
        self.assertIs(False, could_do(Log(2, ()), [(0, 0, 1)], (), (0,)))
        self.assertEqual(([()], ()), (least_hands(K, [], (0, 1, 2, 3)), surely_hands(K, [], (0, 1, 2, 3))))

    def test_hands_of_sure_rows(self):
        hands = (0, 5, 11, 5)
        self.assertEqual([(11,)], least_hands(SURE, [], hands))
        self.assertEqual((11,), surely_hands(SURE, [], hands))
        for lot in ((), (0, 5), (0, 1, 2, 3, 4, 5, 6, 7, 8, 9, 10)):
            self.assertIs(False, could_do(SURE, [], hands, lot))
        for lot in ((11,), (0, 5, 11), tuple(range(12))):
            self.assertIs(True, could_do(SURE, [], hands, lot))
        self.assertEqual(([(5, 11)], (5, 11)), (least_hands(SURE, FINDS, hands), surely_hands(SURE, FINDS, hands)))
        self.assertEqual(([], None), (least_hands(SURE, [(4, 2, 2)], hands), surely_hands(SURE, [(4, 2, 2)], hands)))

    def test_lots_in_their_order(self):
        # Either hand 2 alone or hands 0 and 1 together lead edition 0 to the last office.
        rows = ((1, 0, False), (2, 1, False), (1, 0, False), (2, 1, False))
        self.assertEqual([(0, 1), (2,)], least_hands(Log(3, rows), [(4, 2, 0)], (0, 1, 2, 2)))
        self.assertEqual((), surely_hands(Log(3, rows), [(4, 2, 0)], (0, 1, 2, 2)))
        rows = ((0, 1, False),) * 2 + ((1, 0, False),) * 2 + ((0, 1, False),)
        hands = (5, 11, 2, 3, 4)
        self.assertEqual([(4,), (5,), (11,)], least_hands(Log(2, rows), [(5, 0, 1)], hands))
        self.assertEqual([(2,), (3,)], least_hands(Log(2, rows), [(5, 1, 0)], hands))

    def test_twelve_hands_and_sixty_rows(self):
        chance = random.Random(143)
        for offices in (4, 5):
            rows = some_rows(chance, offices, 60, (False,) * 9 + (True,))
            hands = tuple(chance.randrange(12) for _ in rows)
            finds = [(chance.randint(20, 60), chance.randrange(offices), chance.randrange(offices)) for _ in range(2)]
            sure = {hand for hand, row in zip(hands, rows) if row[2]}
            lots = []
            for lot in subsets(range(12)):
                if sure <= set(lot):
                    # A row that copies an office to itself is one that is not done.
                    kept = tuple(row if hand in lot else (row[0], row[0], True) for hand, row in zip(hands, rows))
                    if any(set(one) <= set(lot) for one in lots) or there_at(offices, kept, finds)[0]:
                        lots.append(lot)
            self.judge(Log(offices, rows), finds, hands, lots)

    def test_twelve_offices(self):
        rows = tuple((x, x - 1, False) for x in range(1, 12)) * 5
        hands = tuple(range(11)) * 5
        log = Log(12, rows)
        self.assertEqual([tuple(range(11))], least_hands(log, [(55, 11, 0)], hands))
        self.assertEqual(tuple(range(11)), surely_hands(log, [(55, 11, 0)], hands))
        self.assertEqual([(3, 7)], least_hands(log, [(55, 4, 3), (55, 8, 7)], hands))
        spread = tuple(at // 5 for at in range(55))
        self.assertIs(True, could_do(log, [(55, 11, 0)], spread, tuple(range(12))))

    def test_more_than_sixty_rows(self):
        chance = random.Random(144)
        for times in (2, 40):
            base = some_rows(chance, 3, 60, (False,) * 30 + (True,))
            log = repeated(Log(3, base), times)
            hands = tuple(chance.randrange(4) for _ in log.rows)
            finds = [(20, 0, 1), (30 * times, 2, 1)]
            sure = {hand for hand, row in zip(hands, log.rows) if row[2]}
            lots = []
            for lot in subsets(range(4)):
                kept = tuple(row if hand in lot else (row[0], row[0], True) for hand, row in zip(hands, log.rows))
                right = sure <= set(lot) and bool(there_at(3, kept, finds)[0])
                self.assertIs(right, could_do(log, finds, hands, lot))
                lots += [lot] if right else []
            self.judge(log, finds, hands, lots)


class Wrongs(unittest.TestCase):
    def test_wrong_things(self):
        for log in (K, SURE):
            for hands, lot in (((0, 1, 2, 3), (2, 3)), ((11, 11, 11, 11), (11,)), ((0, 0, 0, 0), ())):
                first = [(1, NoFinds, NO_FINDS), (2, NoHands, NO_HANDS)]
                try_wrongs(self, could_do, (log, FINDS, hands, lot), first + [(3, NoHands, NO_LOTS)])
                try_wrongs(self, least_hands, (log, tuple(FINDS), hands), first)
                try_wrongs(self, surely_hands, (log, FINDS, hands), first)

    def test_hands_at_their_ends(self):
        row = Log(2, ((0, 1, False),))
        for hand in (0, 11):
            self.assertEqual([(hand,)], least_hands(row, [(1, 0, 1)], (hand,)))
            self.assertIs(True, could_do(row, [(1, 0, 1)], (hand,), (hand,)))
        for hand in (-1, 12):
            self.assertIs(NoHands, error_of(least_hands, row, [], (hand,)).__class__)
            self.assertIs(NoHands, error_of(could_do, row, [], (0,), (hand,)).__class__)
        self.assertIs(True, could_do(row, [], (0,), tuple(range(12))))

    def test_arguments_stay_and_lists_are_new(self):
        finds, rows, hands = list(FINDS), tuple(list(K.rows)), (0, 1, 2, 3)
        found = least_hands(K, finds, hands)
        self.assertEqual(found, least_hands(Log(4, rows), tuple(finds), hands))
        self.assertEqual(surely_hands(K, finds, hands), surely_hands(K, tuple(finds), hands))
        kept = list(found)
        found.clear()
        self.assertEqual(kept, least_hands(K, finds, hands))
        self.assertEqual((FINDS, rows), (finds, K.rows))


if __name__ == "__main__":
    unittest.main()
