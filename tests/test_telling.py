import random
import unittest

from oracles import finals_led_on, run, runs, some_rows, subsets, there_at, true_in
from samples import with_finds
from takenover.changes import behind, repeated
from takenover.errors import NoEdition, NoFind, NoFinds, NoMoment, NoOffice, NoRow, TooMany
from takenover.logs import Log
from takenover.telling import all_at, clash, doubted, editions_at, offices_at, row_told, told, why
from wrongs import K, NO_FINDS, SURE, error_of, nested, try_wrongs, wrong_but, wrong_numbers

SIZES = ((1, 0, 3), (2, 6, 20), (3, 7, 40), (4, 8, 40), (5, 9, 10), (8, 9, 3), (12, 9, 2))
MIXED = ((False,), (False, True), (False,) * 6 + (True,))
FINDS = [(2, 2, 1), (4, 1, 1)]
NO_ROWS = wrong_numbers() + [4, -2]
NO_MOMENTS = wrong_numbers() + [5, -2]
NO_FIND = wrong_but([(0, 0, 0)]) + [(5, 0, 0), (-1, 0, 0), (0, 4, 0), (0, -1, 0), (0, 0, 4), (0, 0, -1), (0, 0)]
NO_FIND += [(0, 0, 0, 0), (True, 0, 0), (0, False, 0), (0, 0, False), [0, 0, 0], (None, 0, 0), [(0, 0, 0)], "000"]
NO_FIND += [(0, 0, nested(tuple, 38)), (nested(list, 39), 0, 0), (10 ** 39, 0, 0), (0, "0", 0), (0, 0, Log(1, ()))]


def word(many, all_of_them):
    """Return the word for what is true in so many of so many doings."""
    if all_of_them == 0:
        return "none"
    return "never" if many == 0 else "surely" if many == all_of_them else "open"


class Told(unittest.TestCase):
    def test_all_doings_gone_through(self):
        chance = random.Random(121)
        words = set()
        for offices, rows, known, finds in with_finds(122, SIZES):
            log = Log(offices, rows)
            right = {doing: moments for doing, moments in known.items() if true_in(moments, finds)}
            for moment in range(len(rows) + 1):
                there = tuple(tuple(sorted({moments[moment][office] for moments in right.values()}))
                              for office in range(offices))
                self.assertEqual(there, all_at(log, finds, moment), (rows, finds))
                for one in range(offices):
                    self.assertEqual(there[one], editions_at(log, finds, moment, one))
                    holders = tuple(office for office in range(offices) if one in there[office])
                    self.assertEqual(holders, offices_at(log, finds, moment, one))
                    find = (moment, one, chance.randrange(offices))
                    many = sum(true_in(moments, [find]) for moments in right.values())
                    words.add(word(many, len(right)))
                    self.assertEqual(word(many, len(right)), told(log, tuple(finds), find))
            for row in range(len(rows)):
                many = sum(doing[row] for doing in right)
                self.assertEqual(word(many, len(right)), row_told(log, finds, row))
        self.assertEqual({"none", "surely", "never", "open"}, words)

    def test_finds_that_no_doing_has(self):
        bad = [(2, 2, 0), (4, 1, 1)]
        self.assertEqual(((), (), ((),) * 4), (editions_at(K, bad, 3, 0), offices_at(K, bad, 3, 0), all_at(K, bad, 3)))
        self.assertEqual("none", told(K, bad, (0, 0, 0)))
        self.assertEqual("none", row_told(K, bad, 0))
        self.assertEqual("none", row_told(SURE, bad, 2))

    def test_sure_rows(self):
        self.assertEqual(("surely", "open"), (row_told(SURE, [], 2), row_told(SURE, [], 3)))
        self.assertEqual(("surely", "open"), (row_told(K, [(3, 2, 3)], 2), row_told(SURE, [(3, 2, 3)], 1)))
        self.assertEqual("never", row_told(K, [(3, 2, 2)], 2))
        # Where both offices hold the same edition, nobody can tell whether the row was done.
        self.assertEqual("open", row_told(Log(2, ((0, 1, True), (1, 0, False))), [(2, 1, 1)], 1))

    def test_finds_at_moments_around_an_undone_row(self):
        log = Log(3, ((0, 1, False), (1, 2, False), (0, 1, False)))
        for moment in range(4):
            for edition in range(3):
                finds = [(moment, 0, edition), (3, 0, 2)]
                doings = [doing for doing, moments in runs(3, log.rows).items() if true_in(moments, finds)]
                for row in range(3):
                    self.assertEqual(word(sum(doing[row] for doing in doings), len(doings)), row_told(log, finds, row))

    def judge_by_sheets(self, chance, log, finds, times):
        """Judge by all sheets that are there in the doings, led on over each row."""
        there = there_at(log.offices, log.rows, finds)
        for _ in range(times):
            moment, office = chance.randint(0, len(log.rows)), chance.randrange(log.offices)
            right = tuple(tuple(sorted({held[one] for held in there[moment]})) for one in range(log.offices))
            self.assertEqual(right, all_at(log, finds, moment))
            self.assertEqual(right[office], editions_at(log, finds, moment, office))
            for edition in range(log.offices):
                holders = tuple(one for one in range(log.offices) if edition in right[one])
                self.assertEqual(holders, offices_at(log, finds, moment, edition))
                many = sum(1 for held in there[moment] if held[office] == edition)
                self.assertEqual(word(many, len(there[moment])), told(log, finds, (moment, office, edition)))

    def finds_of(self, chance, log, many):
        """Return finds that are true in one doing."""
        offices, rows = log.offices, log.rows
        moments = run(offices, rows, tuple(sure or chance.random() < 0.2 for _, _, sure in rows))
        places = [(chance.randint(0, len(rows)), chance.randrange(offices)) for _ in range(many)]
        return [(moment, office, moments[moment][office]) for moment, office in places]

    def test_sixty_rows_and_more(self):
        chance = random.Random(123)
        for sures in MIXED:
            for offices, times in ((4, 1), (6, 1), (5, 6), (3, 60)):
                rows = some_rows(chance, offices, 60, sures)
                log = behind(repeated(Log(offices, rows), times), Log(offices, rows[:times % 2]))
                for many in (0, 3, 12, 40):
                    self.judge_by_sheets(chance, log, self.finds_of(chance, log, many), 6)

    def test_rows_of_sixty_and_more(self):
        chance = random.Random(124)
        for offices, times in ((5, 1), (3, 30)):
            rows = some_rows(chance, offices, 60, (False,) * 6 + (True,))
            log = repeated(Log(offices, rows), times)
            for many in (0, 12, 40):
                finds = self.finds_of(chance, log, many)
                for _ in range(8):
                    row = chance.randrange(len(log.rows))
                    x, y, sure = log.rows[row]
                    ahead, after = log.rows[:row], log.rows[row + 1:]
                    done = there_at(offices, ahead + ((x, y, True),) + after, finds)[0]
                    # A row that is done from an office to itself is one that is not done.
                    undone = not sure and there_at(offices, ahead + ((x, x, True),) + after, finds)[0]
                    self.assertEqual(word(bool(done), bool(done) + bool(undone)), row_told(log, finds, row))

    def test_twelve_offices_and_forty_finds(self):
        chance = random.Random(125)
        for sures in MIXED:
            log = Log(12, some_rows(chance, 12, 60, sures))
            finds = self.finds_of(chance, log, 40)
            for moment, office, edition in finds:
                self.assertEqual("surely", told(log, finds, (moment, office, edition)))
                self.assertEqual((edition,), editions_at(log, finds, moment, office))
                self.assertIn(office, offices_at(log, finds, moment, edition))
            here = all_at(log, finds[:20], 30)
            self.assertEqual(here, tuple(editions_at(log, finds[:20], 30, office) for office in range(12)))
            self.assertEqual(["surely"] * sum(row[2] for row in log.rows),
                             [row_told(log, finds, row) for row in range(60) if log.rows[row][2]])


class Doubted(unittest.TestCase):
    def judge(self, log, finds, find, fits):
        """Judge by all sets of numbers of finds, fewer first, fits telling of a list of finds whether they fit."""
        chosen = subsets(range(len(finds)))

        def those(numbers):
            return [finds[number] for number in numbers]

        def sure(numbers):
            others = [(find[0], find[1], other) for other in range(log.offices) if other != find[2]]
            return fits(those(numbers)) and not any(fits(those(numbers) + [other]) for other in others)

        left = [tuple(number for number in range(len(finds)) if number not in numbers) for numbers in chosen]
        right = next(numbers for numbers, rest in zip(chosen, left) if fits(those(rest)))
        self.assertEqual(right, doubted(log, finds))
        clashing = next((numbers for numbers in chosen if not fits(those(numbers))), None)
        self.assertEqual(clashing, clash(log, finds))
        reason = next((numbers for numbers in chosen if sure(numbers)), None)
        self.assertEqual(reason, why(log, finds, find), (log.rows, finds, find))
        return len(right), len(clashing or ()), -1 if reason is None else len(reason)

    def test_all_sets_gone_through(self):
        chance = random.Random(131)
        sizes = set()
        for offices, rows, known, finds in with_finds(132, SIZES[:-1]):
            finds = finds + [(chance.randint(0, len(rows)), chance.randrange(offices), chance.randrange(offices))]
            moment, office = chance.randint(0, len(rows)), chance.randrange(offices)
            moments = list(known.values())
            find = (moment, office, chance.choice(moments)[moment][office])
            sizes.add(self.judge(Log(offices, rows), finds, find,
                                 lambda some: any(true_in(one, some) for one in moments)))
        self.assertLess({0, 1, 2}, {doubts for doubts, _, _ in sizes})
        self.assertLess({0, 1}, {clashes for _, clashes, _ in sizes})
        self.assertLess({-1, 0}, {reasons for _, _, reasons in sizes})

    def test_twelve_finds(self):
        chance = random.Random(133)
        for offices, many in ((3, 12), (4, 15)):
            for _ in range(3):
                rows = some_rows(chance, offices, many, (False, False, False, True))
                log = Log(offices, rows)
                finds = [(chance.randint(0, many), chance.randrange(offices), chance.randrange(offices))
                         for _ in range(12)]
                known = {}

                def fits(some):
                    key = tuple(some)
                    if key not in known:
                        known[key] = bool(there_at(offices, rows, some)[0])
                    return known[key]

                self.judge(log, finds, (many, 1, 1), fits)

    def test_several_finds_together(self):
        chance = random.Random(135)
        clashes, reasons = {}, {}
        for offices, many in ((6, 20), (7, 30)) * 20:
            rows = some_rows(chance, offices, many, (False,) * 9 + (chance.random() < 0.5,))
            ends = sorted(finals_led_on(offices, rows))
            for _ in range(6):
                there = chance.randint(2, offices)
                held = sorted(chance.sample(range(offices), there))
                places = sorted(chance.sample(range(offices), there))
                finds = [(many, office, edition) for office, edition in zip(places, held)]
                chance.shuffle(finds)
                find = (many, chance.randrange(offices), chance.randrange(offices))
                _, clashing, reason = self.judge(
                    Log(offices, rows), finds, find,
                    lambda some: any(all(held[office] == edition for _, office, edition in some) for held in ends))
                clashes[clashing] = clashes.get(clashing, 0) + 1
                reasons[reason] = reasons.get(reason, 0) + 1
        self.assertLess({2, 3}, set(clashes), clashes)
        self.assertLess({1, 2}, set(reasons), reasons)

    def test_none_and_the_same_find_often(self):
        self.assertEqual(((), None), (doubted(K, []), clash(K, ())))
        self.assertEqual((), why(K, [], (0, 2, 2)))
        self.assertIsNone(why(K, [], (4, 1, 1)))
        self.assertIsNone(why(K, [(4, 1, 1)], (0, 2, 1)))
        twice = [(4, 1, 1), (4, 1, 2), (4, 1, 1), (4, 1, 2), (4, 1, 2)]
        self.assertEqual(((0, 2), (0, 1)), (doubted(K, twice), clash(K, twice)))
        self.assertEqual((1,), why(K, twice, (4, 1, 2)))
        self.assertEqual(((0, 1, 2), (0,)), (doubted(K, [(0, 0, 1)] * 3), clash(K, [(0, 0, 1)] * 3)))
        self.assertEqual((2, 3, 4), doubted(K, [(0, 0, 0)] * 2 + [(0, 0, 1)] * 3))

    def test_twelve_finds_of_twelve_offices(self):
        log = Log(12, tuple((x, x + 1, False) for x in range(10, -1, -1)) * 5)
        finds = [(0, office, office) for office in range(12)]
        self.assertEqual(((), None), (doubted(log, finds), clash(log, finds)))
        self.assertEqual((), why(log, finds[::-1], (0, 6, 6)))
        finds = [(55, office, 11) for office in range(11)] + [(55, 11, 10)]
        self.assertEqual(((11,), (11,)), (doubted(log, finds), clash(log, finds)))
        self.assertIsNone(why(log, finds, (55, 11, 10)))
        self.assertEqual((3,), why(log, [(55, 5, 10), (55, 4, 9), (55, 3, 9), (55, 6, 11)], (55, 9, 11)))

    def test_more_than_sixty_rows(self):
        chance = random.Random(134)
        for _ in range(6):
            rows = some_rows(chance, 3, 50, (False, False, False, True)) * 8
            log = repeated(Log(3, rows[:50]), 8)
            finds = [(chance.randint(0, 400), chance.randrange(3), chance.randrange(3)) for _ in range(6)]
            self.judge(log, finds, (300, 1, 1), lambda some: bool(there_at(3, rows, some)[0]))

    def test_thirteen_finds(self):
        for finds in ([(0, 0, 0)] * 13, ((0, 0, 1),) * 40):
            for function, more in ((doubted, ()), (clash, ()), (why, ((4, 0, 0),))):
                error = error_of(function, K, finds, *more)
                self.assertEqual((TooMany, 12), (error.__class__, error.most))
                self.assertIsNone(error_of(function, K, finds[:12], *more))
        self.assertIs(NoFind, error_of(why, K, [(0, 0, 0)] * 13, (5, 0, 0)).__class__)
        self.assertIs(NoFinds, error_of(why, K, [(0, 0, 0)] * 41, (5, 0, 0)).__class__)
        self.assertIs(NoFinds, error_of(clash, K, [(0, 0, 0)] * 41).__class__)
        self.assertIs(NoFinds, error_of(doubted, K, [(0, 0, 0)] * 12 + [None]).__class__)


class Wrongs(unittest.TestCase):
    def test_wrong_things(self):
        for log in (K, SURE):
            for finds in (FINDS, tuple(FINDS)):
                first = (1, NoFinds, NO_FINDS)
                try_wrongs(self, editions_at, (log, finds, 3, 1),
                           [first, (2, NoMoment, NO_MOMENTS), (3, NoOffice, NO_ROWS)])
                try_wrongs(self, offices_at, (log, finds, 3, 1),
                           [first, (2, NoMoment, NO_MOMENTS), (3, NoEdition, NO_ROWS)])
                try_wrongs(self, all_at, (log, finds, 3), [first, (2, NoMoment, NO_MOMENTS)])
                try_wrongs(self, told, (log, finds, (3, 1, 1)), [first, (2, NoFind, NO_FIND)])
                try_wrongs(self, why, (log, finds, (3, 1, 1)), [first, (2, NoFind, NO_FIND)])
                try_wrongs(self, row_told, (log, finds, 3), [first, (2, NoRow, NO_ROWS)])
                try_wrongs(self, doubted, (log, finds), [first])
                try_wrongs(self, clash, (log, finds), [first])

    def test_numbers_at_their_ends(self):
        self.assertIs(NoRow, error_of(row_told, Log(3, ()), [], 0).__class__)
        self.assertEqual(((0,), (0,)), (editions_at(Log(1, ()), [], 0, 0), offices_at(Log(1, ()), [], 0, 0)))
        self.assertIs(NoMoment, error_of(all_at, Log(1, ()), [], 1).__class__)
        self.assertEqual(tuple((office,) for office in range(12)), all_at(Log(12, ()), [(0, 0, 0)] * 40, 0))

    def test_arguments_stay(self):
        finds, rows = list(FINDS), tuple(list(K.rows))
        for function, more in ((editions_at, (3, 1)), (offices_at, (3, 1)), (all_at, (3,)), (told, ((3, 1, 1),)),
                               (row_told, (1,)), (doubted, ()), (clash, ()), (why, ((3, 1, 1),))):
            self.assertEqual(function(K, finds, *more), function(Log(4, rows), tuple(finds), *more))
        self.assertEqual((FINDS, rows), (finds, K.rows))


if __name__ == "__main__":
    unittest.main()
