import random
import unittest

from itertools import combinations, product

from oracles import finals, finals_led_on, run, some_rows, subsets
from takenover.archives import Archive
from takenover.changes import behind, repeated
from takenover.errors import BadLog, BadWeb, NoLot, NoWorths, TooMany
from takenover.logs import Log
from takenover.webs import (Web, block, count_lots, exchanged, greatest_lot, is_block, is_ways, surely_gone, ways, web_of,
                            worthiest)
from wrongs import error_of, nested, try_wrongs, wrong_but, wrong_numbers, wrong_things

W = Web(3, ((0, 1, True), (2, 1, True), (1, 0, False)))
LOOSE = (False,)
MIXED = (False, False, False, True)
NO_LOTS = wrong_but([(), (0,)]) + [(0, 0), (1, 0), (0, 2, 1), (0, 1, 1), (3,), (-1,), (0, 3), (-1, 0), [0, 1], (True,)]
NO_LOTS += [(0, True), (False, 1), (None,), ("0",), ((0,),), (0, None), (0, (1,)), (0, nested(tuple, 38)), {0: 1}, "01"]
NO_LOTS += [(10 ** 39,), (Web(1, ()),), Web(3, ()), Log(3, ()), range(2), iter((0, 1)), (0, 1, 2, 3), ("",), (False,)]


def web_rows(source, offices, many, sures=MIXED):
    """Return rows of a web."""
    if offices == 1:
        return ()
    return tuple(tuple(source.sample(range(offices), 2)) + (source.choice(sures),) for _ in range(many))


def all_web_rows(offices, many):
    """Return all tuples of so many rows."""
    rows = [(x, y, sure) for x in range(offices) for y in range(offices) if x != y for sure in (False, True)]
    return list(product(rows, repeat=many))


def lots_in(ends):
    """Return the set of the lots that are held in some of these sheets."""
    return {lot for held in {tuple(sorted(set(held))) for held in ends} for lot in subsets(held)}


def all_ways(rows, edition):
    """Return all ways of an edition."""
    found = [(edition,)]
    for x, y, sure in rows:
        staying = [way + (way[-1],) for way in found if not (sure and way[-1] == x)]
        found = staying + [way + (x,) for way in found if way[-1] == y]
    return found


def right_ways(rows, lot, thing):
    """Judge ways of the right kinds by 10.1."""
    if len(thing) != len(lot) or not all(way in all_ways(rows, edition) for edition, way in zip(lot, thing)):
        return False
    return all(len(set(offices)) == len(lot) for offices in zip(*thing))


def right_block(rows, lot, thing):
    """Judge a tuple of places by all ways."""
    if list(thing) != sorted(set(thing)) or len(thing) >= len(lot):
        return False
    return all(set(enumerate(way)) & set(thing) for edition in lot for way in all_ways(rows, edition))


def is_step(row, ahead, after):
    """Tell whether a way can lead from an office to another one over a row."""
    x, y, sure = row
    return (ahead == after and not (sure and x == ahead)) or (after == x and ahead == y)


def right_great_ways(rows, lot, thing):
    """Judge ways step by step."""
    if len(thing) != len(lot) or any(len(way) != len(rows) + 1 for way in thing):
        return False
    if tuple(way[0] for way in thing) != lot or any(len(set(offices)) != len(lot) for offices in zip(*thing)):
        return False
    return all(is_step(row, ahead, after) for way in thing for row, ahead, after in zip(rows, way, way[1:]))


def right_great_block(rows, lot, thing):
    """Judge a block by leading all ways on that come to none of its places."""
    if list(thing) != sorted(set(thing)) or len(thing) >= len(lot):
        return False
    there = {edition for edition in lot if (0, edition) not in thing}
    for at, row in enumerate(rows):
        offices = there | {row[0]}
        there = {after for after in offices if any(is_step(row, ahead, after) for ahead in there)}
        there = {office for office in there if (at + 1, office) not in thing}
    return not there


def lots_led_back(offices, rows):
    """Return the set of the lots that can be there, by all sets of offices whose sheets can be there at the end."""
    found = {frozenset(some) for some in subsets(range(offices))}
    for x, y, sure in rows[::-1]:
        staying = {some for some in found if not (sure and x in some)}
        found = staying | {some - {x} | {y} for some in found if x in some and y not in some}
    return {tuple(sorted(some)) for some in found}


class Webs(unittest.TestCase):
    def test_what_a_web_is(self):
        rows = ((0, 11, True), (11, 0, False), (5, 3, False))
        web = Web(12, rows)
        self.assertEqual((12, rows), (web.offices, web.rows))
        self.assertTrue(web == Web(12, tuple(list(rows))))
        self.assertFalse(web != Web(12, rows))
        for other in (Web(12, rows[:2]), Web(12, ()), Log(12, ()), None, (12, rows), rows, Archive(12)):
            self.assertFalse(web == other)
        self.assertFalse(Web(12, ()) == Log(12, ()) or Log(12, ()) == Web(12, ()))
        self.assertFalse(Web(3, ()) == Web(4, ()))
        for thing in wrong_things():
            self.assertFalse(Web(2, ()) == thing)
        self.assertFalse(Web(3, ((0, 1, True),)) == Web(3, ((0, 1, False),)))

    def test_one_and_twelve_offices_no_rows_and_sixty(self):
        self.assertEqual((1, ()), (Web(1, ()).offices, Web(1, ()).rows))
        self.assertEqual(60, len(Web(2, ((0, 1, True),) * 60).rows))
        for offices in range(1, 13):
            self.assertEqual(offices, Web(offices, ()).offices)

    def test_no_offices(self):
        for thing in wrong_but([]) + [0, 13, -1, 10 ** 39, "3", True, (3,)]:
            for rows in ((), None, [], ((0, 0, 0),)):
                error = error_of(Web, thing, rows)
                self.assertEqual((BadWeb, "offices"), (error.__class__, error.part))
                self.assertNotIsInstance(error, BadLog)

    def test_no_rows(self):
        things = [thing for thing in wrong_things() if not isinstance(thing, tuple)]
        for thing in things + [[(0, 1, True)], ((0, 1, True),) * 61, ((0, 0, 0),) * 61, "", {}, Web(3, ()), Log(3, ())]:
            error = error_of(Web, 3, thing)
            self.assertEqual((BadWeb, "rows"), (error.__class__, error.part))

    def test_the_first_thing_that_is_no_row(self):
        right = (0, 2, True)
        wrong = wrong_but([]) + [(0, 0, True), (0, 3, True), (3, 0, True), (-1, 0, True), (0, -1, True), (0, 1), (0, 1, 1)]
        wrong += [(0, 1, 0), (0, 1, None), (True, 0, True), (0, True, False), [0, 1, True], (0, 1, True, True), ("0", 1, True)]
        wrong += [(0, 1, nested(tuple, 38)), (nested(list, 38), 0, True), (0, (1,), True), (10 ** 39, 0, True), Web(1, ())]
        for thing in wrong:
            for at in (0, 1, 59):
                rows = (right,) * at + (thing,) + (None,) * (59 - at)
                error = error_of(Web, 3, rows)
                self.assertEqual((BadWeb, at), (error.__class__, error.part), thing)
        self.assertIs(BadWeb, error_of(Web, 1, ((0, 0, True),)).__class__)

    def test_web_of_a_log(self):
        log = Log(4, ((1, 0, False), (2, 3, True)))
        web = web_of(log)
        self.assertIs(Web, web.__class__)
        self.assertTrue(web == Web(4, log.rows))
        self.assertEqual(Log(4, ((1, 0, False), (2, 3, True))), log)
        long = repeated(log, 90)
        self.assertEqual((4, log.rows * 90), (web_of(long).offices, web_of(long).rows))


class Small(unittest.TestCase):
    def webs(self):
        """Return small webs."""
        source = random.Random(221)
        found = [(1, ()), (2, ()), (5, ())] + [(3, rows) for rows in all_web_rows(3, 2)]
        found += [(2, rows) for many in (1, 3) for rows in all_web_rows(2, many)]
        for offices, many, times in ((3, 6, 60), (4, 7, 60), (5, 9, 30), (6, 9, 8)):
            found += [(offices, web_rows(source, offices, many, source.choice((LOOSE, MIXED)))) for _ in range(times)]
            found += [(offices, some_rows(source, offices, many)) for _ in range(times // 4)]
        return found

    def test_ways_and_blocks_of_all_lots(self):
        answers = [0, 0]
        for offices, rows in self.webs():
            web = Web(offices, rows)
            right = lots_in(finals(offices, rows))
            for lot in subsets(range(offices)):
                told, barred = ways(web, lot), block(web, lot)
                answers[lot in right] += 1
                self.assertEqual((lot in right, lot not in right), (told is not None, barred is not None), (rows, lot))
                if lot in right:
                    self.assertTrue(right_ways(rows, lot, told))
                    self.assertIs(True, is_ways(web, lot, told))
                    self.assertIs(tuple, told.__class__)
                else:
                    self.assertTrue(right_block(rows, lot, barred), (rows, lot, barred))
                    self.assertIs(True, is_block(web, lot, barred))
                    self.assertIs(tuple, barred.__class__)
        self.assertGreater(min(answers), 1000)

    def test_lots_by_all_doings(self):
        source = random.Random(222)
        for offices, rows in self.webs():
            web = Web(offices, rows)
            right = sorted(lots_in(finals(offices, rows)))
            self.assertEqual(len(right), count_lots(web))
            most = max(map(len, right))
            self.assertEqual(min(lot for lot in right if len(lot) == most), greatest_lot(web))
            gone = tuple(edition for edition in range(offices) if (edition,) not in right)
            self.assertEqual(gone, surely_gone(web))
            for choices in ((0, 1), (0, 3, 5, 5), (0, 10 ** 9), (1,), (0,), range(100)):
                worths = tuple(source.choice(choices) for _ in range(offices))
                worth = max(sum(worths[edition] for edition in lot) for lot in right)
                least = min(lot for lot in right if sum(worths[edition] for edition in lot) == worth)
                self.assertEqual((worth, least), worthiest(web, worths))

    def test_exchanges_by_all_doings(self):
        source = random.Random(223)
        many = 0
        for offices, rows in self.webs():
            web = Web(offices, rows)
            right = lots_in(finals(offices, rows))
            lots = subsets(range(offices))
            pairs = [(one, other) for one in lots for other in lots]
            for one, other in pairs if len(pairs) <= 64 else source.sample(pairs, 64):
                if one in right and other in right and len(other) > len(one):
                    fresh = [edition for edition in other if edition not in one]
                    least = min(edition for edition in fresh if tuple(sorted(one + (edition,))) in right)
                    self.assertEqual(least, exchanged(web, one, other))
                    many += 1
                else:
                    self.assertIs(NoLot, error_of(exchanged, web, one, other).__class__)
        self.assertGreater(many, 1000)

    def test_ties_of_worths(self):
        web = Web(4, ())
        # Editions of no worth stand in the least lot only where it comes first so.
        self.assertEqual((5, (0, 1, 2)), worthiest(web, (0, 0, 5, 0)))
        self.assertEqual((5, (0,)), worthiest(web, (5, 0, 0, 0)))
        self.assertEqual((0, ()), worthiest(web, (0, 0, 0, 0)))
        self.assertEqual((4 * 10 ** 9, (0, 1, 2, 3)), worthiest(web, (10 ** 9,) * 4))
        self.assertEqual((7, (1,)), worthiest(Web(3, ((0, 2, True),)), (0, 7, 0)))
        self.assertEqual((7, (0,)), worthiest(Web(2, ((1, 0, True),)), (7, 9)))
        self.assertEqual((9, (1,)), worthiest(Web(2, ((0, 1, True),)), (10, 9)))

    def test_the_example(self):
        self.assertEqual((1,), greatest_lot(W))
        self.assertIs(True, is_block(W, (0, 1), ((0, 1),)))
        self.assertIs(True, is_ways(W, (1,), ((1, 1, 1, 1),)))
        self.assertEqual(((0, 2), 2), (surely_gone(W), count_lots(W)))

    def test_the_empty_lot_and_lots_of_one(self):
        for web in (W, Web(1, ()), Web(12, ())):
            self.assertEqual(((), None), (ways(web, ()), block(web, ())))
            self.assertIs(True, is_ways(web, (), ()))
            self.assertIs(False, is_block(web, (), ()))
        self.assertEqual((None, ()), (ways(W, (0,)), block(W, (0,))))
        self.assertIs(True, is_block(W, (0,), ()))
        self.assertIs(False, is_block(W, (1,), ()))
        self.assertTrue(right_ways(W.rows, (1,), ways(W, (1,))))
        self.assertIsNone(block(W, (1,)))

    def test_far_offices_and_sure_rows(self):
        web = Web(12, ((0, 11, True), (11, 5, True), (5, 0, True)))
        self.assertEqual((0,), surely_gone(web))
        self.assertEqual(tuple(range(1, 12)), greatest_lot(web))
        self.assertTrue(right_ways(web.rows, tuple(range(1, 12)), ways(web, tuple(range(1, 12)))))
        self.assertIs(True, is_ways(web, (11,), ((11, 0, 0, 5),)))
        self.assertIs(True, is_ways(web, (11,), ((11, 0, 0, 0),)))
        self.assertIs(False, is_ways(web, (11,), ((11, 11, 11, 11),)))
        self.assertIs(True, is_ways(web, (5, 11), ((5, 5, 11, 11), (11, 0, 0, 5))))
        self.assertIs(False, is_ways(web, (5, 11), ((5, 5, 5, 5), (11, 0, 0, 0))))


class Judged(unittest.TestCase):
    def test_all_tuples_of_offices_as_ways(self):
        for rows in all_web_rows(2, 2) + [()]:
            web = Web(2, rows)
            stands = list(product(range(2), repeat=len(rows) + 1))
            for lot in subsets(range(2)):
                for many in (len(lot), len(lot) + 1, len(lot) - 1):
                    for thing in product(stands, repeat=max(0, many)):
                        self.assertIs(right_ways(rows, lot, thing), is_ways(web, lot, thing), (rows, lot, thing))

    def test_all_tuples_of_offices_as_a_way(self):
        source = random.Random(224)
        for _ in range(8):
            rows = web_rows(source, 3, 5)
            for edition in range(3):
                right = all_ways(rows, edition)
                for way in product(range(3), repeat=6):
                    self.assertIs(way in right, is_ways(Web(3, rows), (edition,), (way,)))

    def test_all_sets_of_places_as_blocks(self):
        source = random.Random(225)
        found = [0, 0]
        for rows in [()] + [web_rows(source, 3, many) for many in (1, 2, 3) for _ in range(12)]:
            web = Web(3, rows)
            places = list(product(range(len(rows) + 1), range(3)))
            for lot in subsets(range(3)):
                for many in range(4):
                    for thing in combinations(places, many):
                        told = right_block(rows, lot, thing)
                        found[told] += 1
                        self.assertIs(told, is_block(web, lot, thing), (rows, lot, thing))
        self.assertGreater(min(found), 100)

    def test_things_near_ways(self):
        lot, right = (5, 11), ((5, 5, 11, 11), (11, 0, 0, 5))
        web = Web(12, ((0, 11, True), (11, 5, True), (5, 0, True)))
        self.assertIs(True, is_ways(web, lot, right))
        wrong = [list(right), right[::-1], right[:1], right * 2, (list(right[0]), right[1]), (right[0], None), right + ((),)]
        wrong += [((5, 5, 11), (11, 0, 0)), ((5, 5, 11, 11, 11), right[1]), (right[0], (11, False, False, 5)), right[0]]
        wrong += [(right[0], (11, 0, 0, "5")), (right[0], (11, 0, 0, 12)), (right[0], (-1, 0, 0, 5)), {0: right}, iter(right)]
        wrong += [(right[0], nested(tuple, 38)), (right[0], (11, 0, 0, (5,))), ((), ()), (right[0], right[0]), (5, 11)]
        for thing in wrong_things() + wrong:
            self.assertIs(False, is_ways(web, lot, thing))
        self.assertIs(False, is_ways(web, lot, ((5, 5, 11, 11), (11, 0, 0, 11))))

    def test_things_near_blocks(self):
        web = Web(3, ((0, 1, True), (2, 1, True), (1, 0, False)))
        lot = (0, 1, 2)
        for right in (((0, 1),), ((0, 0), (0, 1)), ((0, 1), (3, 2)), ((1, 0), (1, 1))):
            self.assertIs(True, is_block(web, lot, right))
            wrong = [list(right), right * 2, right + right[-1:], tuple(list(place) for place in right), right[0], {right: 0}]
            wrong += [right[::-1] if len(right) > 1 else (), tuple(place + (0,) for place in right), right[1:], iter(right)]
            wrong += [right + ((3, 3),), right + ((4, 0),), right + ((-1, 0),), right + ((3, -1),), right + (None,)]
            wrong += [right + (nested(tuple, 38),), right + (("3", 2),), right + ((3, None),), right + ((10 ** 39, 0),)]
            for thing in wrong_things() + wrong:
                told = right_block(web.rows, lot, thing) if thing in [((0, 1),), ((1, 0), (1, 1)), ((1, 1),)] else False
                self.assertIs(told, is_block(web, lot, thing), thing)
        for thing in (((0, True),), ((False, 1),), ((0, 1), (True, 1)), ((0, 0), (0, True))):
            self.assertIs(False, is_block(web, lot, thing))


class Great(unittest.TestCase):
    def judge(self, web, lot):
        """Judge the ways or the block of a lot, and return whether it can be there."""
        told, barred = ways(web, lot), block(web, lot)
        self.assertIs(told is None, barred is not None)
        if told is None:
            self.assertTrue(right_great_block(web.rows, lot, barred))
            self.assertIs(True, is_block(web, lot, barred))
        else:
            self.assertTrue(right_great_ways(web.rows, lot, told))
            self.assertIs(True, is_ways(web, lot, told))
        return told is not None

    def judge_lots(self, source, web, right):
        """Judge what is told of all lots by those that can be there."""
        most = max(map(len, right))
        self.assertEqual(min(lot for lot in right if len(lot) == most), greatest_lot(web))
        self.assertEqual(tuple(edition for edition in range(web.offices) if (edition,) not in right), surely_gone(web))
        for choices in ((0, 1), (0, 3, 5, 5), (10 ** 9 - 1, 10 ** 9)):
            worths = tuple(source.choice(choices) for _ in range(web.offices))
            worth = max(sum(worths[edition] for edition in lot) for lot in right)
            least = min(lot for lot in right if sum(worths[edition] for edition in lot) == worth)
            self.assertEqual((worth, least), worthiest(web, worths))
        lots = sorted(right)
        for _ in range(20):
            one, other = sorted((source.choice(lots), source.choice(lots)), key=len)
            if len(one) < len(other):
                fresh = [edition for edition in other if edition not in one]
                least = min(edition for edition in fresh if tuple(sorted(one + (edition,))) in right)
                self.assertEqual(least, exchanged(web, one, other))

    def test_twelve_offices_and_sixty_rows(self):
        source = random.Random(226)
        for sures in (LOOSE, (False,) * 9 + (True,), (False,) * 20 + (True,)):
            for few in (12, 5):
                rows = tuple((x, y if y != x else (x + 1) % 12, sure) for x, y, sure in
                             ((source.randrange(few), source.randrange(12), source.choice(sures)) for _ in range(60)))
                web = Web(12, rows)
                right = lots_led_back(12, rows)
                self.judge_lots(source, web, right)
                answers = set()
                for lot in [greatest_lot(web), tuple(range(12)), ()] + source.sample(subsets(range(12)), 40):
                    answers.add(self.judge(web, lot))
                    self.assertIs(lot in right, ways(web, lot) is not None)
                self.assertIn(True, answers)

    def test_the_web_of_a_log_of_some_thousand_rows(self):
        source = random.Random(227)
        for offices, times in ((5, 40), (4, 90), (12, 30)):
            base = some_rows(source, offices, 60, (False,) * 29 + (True,))
            log = behind(repeated(Log(offices, base), times), Log(offices, base[:7]))
            web = web_of(log)
            right = lots_led_back(offices, web.rows)
            if offices < 12:
                self.assertEqual(lots_in(finals_led_on(offices, log.rows)), right)
                self.assertEqual(len(right), count_lots(web))
            self.judge_lots(source, web, right)
            for lot in [greatest_lot(web), tuple(range(offices))] + source.sample(subsets(range(offices)), 10):
                self.assertIs(lot in right, self.judge(web, lot))

    def test_loose_rows_that_lead_far(self):
        # The sheet of office 0 goes round all offices, each copied before it is lost.
        rows = tuple((office + 1, office, False) for office in range(11)) + ((0, 11, False),)
        web = Web(12, rows * 5)
        self.assertEqual(tuple(range(12)), greatest_lot(web))
        self.assertEqual((), surely_gone(web))
        web = Web(12, tuple((x, y, True) for x, y, _ in rows) * 5)
        self.assertEqual(((0,), tuple(range(1, 12))), (greatest_lot(web), surely_gone(web)))
        self.judge(web, (0,))
        self.judge(web, (0, 11))

    def test_doings_out_of_ways(self):
        source = random.Random(228)
        for _ in range(20):
            rows = web_rows(source, 9, 60, (False,) * 29 + (True,))
            web = Web(9, rows)
            lot = greatest_lot(web)
            told = ways(web, lot)
            doing = tuple(sure or any(way[at] == y and way[at + 1] == x for way in told)
                          for at, (x, y, sure) in enumerate(rows))
            self.assertLessEqual(set(lot), set(run(9, rows, doing)[-1]))


class Wrongs(unittest.TestCase):
    def test_no_lots(self):
        for web in (W, Web(3, ()), web_of(Log(3, ((0, 1, False),)))):
            for function, more in ((ways, ()), (block, ()), (is_ways, (((1, 1, 1, 1),),)), (is_block, (((0, 1),),))):
                try_wrongs(self, function, (web, (1,)) + more, [(1, NoLot, NO_LOTS)])

    def test_no_lots_to_exchange(self):
        web = Web(3, ((0, 1, True),))
        try_wrongs(self, exchanged, (web, (1,), (1, 2)), [(1, NoLot, NO_LOTS), (2, NoLot, NO_LOTS)])
        for one, other in (((0,), (1, 2)), ((0,), (0, 1, 2)), ((1,), (0, 1)), ((1,), (0, 2)), ((1,), (2,)), ((1, 2), (1,)),
                           ((1, 2), (1, 2)), ((), ()), ((1,), ()), ((1,), (0, 1, 2)), ((0, 1), (1, 2)), ((), (0,))):
            self.assertIs(NoLot, error_of(exchanged, web, one, other).__class__, (one, other))
        self.assertEqual((1, 2, 2), (exchanged(web, (), (1, 2)), exchanged(web, (), (2,)), exchanged(web, (1,), (1, 2))))

    def test_no_worths(self):
        wrong = wrong_but([]) + [(0, 0), (0, 0, 0, 0), [0, 0, 0], (0, 0, True), (False, 0, 0), (0, -1, 0), (0, 0, "0")]
        wrong += [(0, 10 ** 9 + 1, 0), (10 ** 39, 0, 0), (0, None, 0), (0, 0, nested(tuple, 38)), {0: 0, 1: 0, 2: 0}, ()]
        try_wrongs(self, worthiest, (W, (0, 10 ** 9, 3)), [(1, NoWorths, wrong)])
        self.assertEqual((10 ** 9, (1,)), worthiest(W, (0, 10 ** 9, 3)))
        self.assertEqual((1, (0,)), worthiest(Web(1, ()), (1,)))

    def test_eight_and_nine_offices(self):
        self.assertEqual(256, count_lots(Web(8, ())))
        for offices in range(9, 13):
            for web in (Web(offices, ()), web_of(Log(offices, ()))):
                error = error_of(count_lots, web)
                self.assertEqual((TooMany, 8), (error.__class__, error.most))
                self.assertEqual(tuple(range(offices)), greatest_lot(web))

    def test_numbers_of_wrong_things_are_wrong_at_all_sizes(self):
        for thing in wrong_numbers():
            self.assertIs(NoLot, error_of(ways, Web(2, ()), (thing,)).__class__)

    def test_equal_calls_give_equal_answers_and_arguments_stay(self):
        rows = web_rows(random.Random(229), 6, 20)
        web, other = Web(6, rows), Web(6, tuple(tuple(row) for row in rows))
        for lot in subsets(range(6)):
            self.assertEqual(ways(web, lot), ways(other, lot))
            self.assertEqual(block(web, lot), block(other, lot))
        self.assertEqual((6, rows), (web.offices, web.rows))


if __name__ == "__main__":
    unittest.main()
